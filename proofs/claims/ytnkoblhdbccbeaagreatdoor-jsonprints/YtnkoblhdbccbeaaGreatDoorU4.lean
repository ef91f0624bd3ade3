/-
  cmp.Compare, strings.Compare, slices.CompareFunc at values and at fields, by their contracts. No conditions beyond those stated.
  slices.CompareFunc at fields by its contract. No conditions beyond those stated.
  package value's Cmp, Same by their contracts: how two values stand to one another, so deep. No conditions beyond those stated.
  slices.IndexFunc at fields, package value's place and above by their contracts. No conditions beyond those stated.
  slices.Delete at fields by its contract. No conditions beyond those stated.
  The law's maker of values: what it makes, its tables, its numbers. No conditions beyond those stated.
-/
import Derived.Test.YtnkoblhdbccbeaaGreatDoorU3
import Derived.Lib.Bytealg
import Derived.Deep.LoopGhost
import Derived.WalkLawsBesides
import Derived.Lib.Walk
import Derived.Shelf.Abstract
import Derived.Deep.RegionLaw
import Derived.Lib.AppendZeros
namespace Go.Proofs.YtnkoblhdbccbeaaGreatDoor
open Go.RowKit

theorem cmpK_any (a b : Int) (w : World) : Calls Tryz.prog 59 #[.int .i64 a, .int .i64 b] w fun e w' => e = .returned (.int .i64 (cmpI a b)) ∧ w' = w := by
  unfold cmpI
  by_cases h1 : a < b
  · rw [if_pos h1]
    go_enter Tryz.func59, Tryz.ntmps59
    go_wp2
    go_ret
    exact ⟨rfl, rfl⟩
  · rw [if_neg h1]
    by_cases h2 : b < a
    · rw [if_pos h2]
      go_enter Tryz.func59, Tryz.ntmps59
      go_wp2
      go_ret
      exact ⟨rfl, rfl⟩
    · rw [if_neg h2]
      go_enter Tryz.func59, Tryz.ntmps59
      go_wp2
      go_ret
      exact ⟨rfl, rfl⟩
theorem cmpN_any (a b : Int) (w : World) : Calls Tryz.prog 60 #[.int .i64 a, .int .i64 b] w fun e w' => e = .returned (.int .i64 (cmpI a b)) ∧ w' = w := by
  unfold cmpI
  by_cases h1 : a < b
  · rw [if_pos h1]
    go_enter Tryz.func60, Tryz.ntmps60
    go_wp2
    go_ret
    exact ⟨rfl, rfl⟩
  · rw [if_neg h1]
    by_cases h2 : b < a
    · rw [if_pos h2]
      go_enter Tryz.func60, Tryz.ntmps60
      go_wp2
      go_ret
      exact ⟨rfl, rfl⟩
    · rw [if_neg h2]
      go_enter Tryz.func60, Tryz.ntmps60
      go_wp2
      go_ret
      exact ⟨rfl, rfl⟩

theorem compareBytes_eq : ∀ a b, Lib.compareBytes a b = cmpB a b
  | [], [] => rfl
  | [], _ :: _ => rfl
  | _ :: _, [] => rfl
  | x :: xs, y :: ys => by
    simp only [Lib.compareBytes, cmpB, compareBytes_eq xs ys, UInt8.lt_iff_toNat_lt]
theorem cmpT_data (a b : ByteArray) : cmpT a b = cmpB a.data.toList b.data.toList := by
  unfold cmpT
  rw [Lib.toList_data, Lib.toList_data]

set_option maxHeartbeats 1000000 in
set_option maxRecDepth 100000 in
theorem CompareString_any (a b : ByteArray) (w : World) : Calls Tryz.prog 89 #[.string a, .string b] w fun e w' => e = .returned (.int .i64 (cmpT a b)) ∧ w' = w := by
  rw [cmpT_data, ← compareBytes_eq]
  go_enter Tryz.func89, Tryz.ntmps89
  go_wp2
  rw [run_callFunc_extern Tryz.func107 (by kernel_rfl) (by kernel_rfl) (by kernel_rfl) (e := Extern.BytealgCompare.compare) (by kernel_rfl), Lib.run_compareString]
  simp only [Result.andThen]
  rw [Oper.upon_value]
  go_wp2
  go_ret
  exact ⟨rfl, rfl⟩
theorem Compare_any (a b : ByteArray) (w : World) : Calls Tryz.prog 61 #[.string a, .string b] w fun e w' => e = .returned (.int .i64 (cmpT a b)) ∧ w' = w := by
  go_enter Tryz.func61, Tryz.ntmps61
  go_wp2_with (go_at_call 89; refine (CompareString_any _ _ _).mono ?_; rintro e w' ⟨rfl, rfl⟩)
  go_ret
  exact ⟨rfl, rfl⟩

theorem cmpL_drop {α : Type} (f : α → α → Int) : ∀ (k : Nat) (a b : List α), k ≤ a.length → k ≤ b.length → (∀ j x y, j < k → a[j]? = some x → b[j]? = some y → f x y = 0) → cmpL f a b = cmpL f (a.drop k) (b.drop k)
  | 0, _, _, _, _, _ => rfl
  | k + 1, [], _, h, _, _ => by simp at h
  | k + 1, _ :: _, [], _, h, _ => by simp at h
  | k + 1, x :: a, y :: b, h1, h2, h => by
    have h0 := h 0 x y (by omega) rfl rfl
    simp only [cmpL, if_pos h0, List.drop_succ_cons]
    exact cmpL_drop f k a b (by simpa using h1) (by simpa using h2) fun j u v hj hu hv => h (j + 1) u v (by omega) (by simpa using hu) (by simpa using hv)

theorem cmpL_hit {α : Type} (f : α → α → Int) (k : Nat) (a b : List α) (x y : α) (hx : a[k]? = some x) (hy : b[k]? = some y) (h : ∀ j x y, j < k → a[j]? = some x → b[j]? = some y → f x y = 0) (h0 : ¬ f x y = 0) : cmpL f a b = f x y := by
  have ha := (List.getElem?_eq_some_iff.1 hx).1
  have hb := (List.getElem?_eq_some_iff.1 hy).1
  rw [cmpL_drop f k a b (by omega) (by omega) h]
  have e1 : a.drop k = x :: a.drop (k + 1) := by rw [List.drop_eq_getElem_cons ha]; congr 1; exact (List.getElem?_eq_some_iff.1 hx).2
  have e2 : b.drop k = y :: b.drop (k + 1) := by rw [List.drop_eq_getElem_cons hb]; congr 1; exact (List.getElem?_eq_some_iff.1 hy).2
  rw [e1, e2]
  simp only [cmpL, if_neg h0]
theorem cmpL_more {α : Type} (f : α → α → Int) (k : Nat) (a b : List α) (ha : k < a.length) (hb : k = b.length) (h : ∀ j x y, j < k → a[j]? = some x → b[j]? = some y → f x y = 0) : cmpL f a b = 1 := by
  rw [cmpL_drop f k a b (by omega) (by omega) h]
  have e1 : a.drop k = a[k] :: a.drop (k + 1) := List.drop_eq_getElem_cons ha
  have e2 : b.drop k = [] := List.drop_of_length_le (by omega)
  rw [e1, e2]
  rfl
theorem cmpL_end {α : Type} (f : α → α → Int) (k : Nat) (a b : List α) (ha : k = a.length) (hb : k ≤ b.length) (h : ∀ j x y, j < k → a[j]? = some x → b[j]? = some y → f x y = 0) : cmpL f a b = if a.length < b.length then -1 else 0 := by
  rw [cmpL_drop f k a b (by omega) (by omega) h]
  have e1 : a.drop k = [] := List.drop_of_length_le (by omega)
  rw [e1]
  by_cases hl : a.length < b.length
  · have e2 : b.drop k = b[k] :: b.drop (k + 1) := List.drop_eq_getElem_cons (by omega)
    rw [e2, if_pos hl]; rfl
  · have e2 : b.drop k = [] := List.drop_of_length_le (by omega)
    rw [e2, if_neg hl]; rfl

set_option maxHeartbeats 2000000 in
/-- slices.CompareFunc at values. -/
theorem CompareFuncV_any (g : Nat) (eg : ∀ args w, (callFunc g args).run Tryz.prog w = .ok (.enter g args) w) (c : V → V → Int) (n : Nat)
    (xs ys : List El) (sa sb : Value) (w : World) (ha : RowAt (fun _ => True) w 31 5 sa xs.length (encEs xs)) (hb : RowAt (fun _ => True) w 31 5 sb ys.length (encEs ys))
    (la : ∀ e ∈ xs, Lies n w e.v e.l e.f) (lb : ∀ e ∈ ys, Lies n w e.v e.l e.f)
    (hg : ∀ x ∈ xs, ∀ y ∈ ys, ∀ W, Below w.heap.size w W → Calls Tryz.prog g #[.agg #[.int .i64 x.v.kind, .int .i64 x.v.num, .string x.v.text, x.l, x.f], .agg #[.int .i64 y.v.kind, .int .i64 y.v.num, .string y.v.text, y.l, y.f]] W fun e w' => e = .returned (.int .i64 (c x.v y.v)) ∧ Below W.heap.size W w') :
    Calls Tryz.prog 62 #[sa, sb, .func (.func g) #[] #[]] w fun e w' => e = .returned (.int .i64 (cmpL c (xs.map El.v) (ys.map El.v))) ∧ Below w.heap.size w w' := by
  obtain ⟨aa, ca, rfl⟩ := ha.slice
  obtain ⟨ab, cb, rfl⟩ := hb.slice
  have na := ha.2.1
  have nb := hb.2.1
  go_enter Tryz.func62, Tryz.ntmps62
  go_wp2
  go_loopg [6, 7, 8, 9, 10, 13] xs.length (fun gg _ _ _ _ _ i wr => ∃ k : Nat, k ≤ xs.length ∧ k ≤ ys.length ∧ xs.length - k ≤ gg ∧ i = .int .i64 k ∧ Aside (Below w.heap.size w wr) ∧ Aside (∀ j x y, j < k → (xs.map El.v)[j]? = some x → (ys.map El.v)[j]? = some y → c x y = 0))
  case atStart => exact ⟨0, Nat.zero_le _, Nat.zero_le _, by omega, rfl, Below.refl _ w, fun j _ _ hj => absurd hj (Nat.not_lt_zero _)⟩
  case round =>
    obtain ⟨k, hk, hkb, hgg, rfl, BW, A⟩ := hrel
    by_cases hlt : k < xs.length
    · obtain ⟨b, c', e1, hbl, _, hc1, hc2, _⟩ := ha.cells (by omega)
      simp only [Value.slice.injEq, true_and] at e1
      obtain ⟨rfl, rfl⟩ := e1
      obtain ⟨⟨xv, xl, xf⟩, hx⟩ : ∃ x, xs[k]? = some x := ⟨_, List.getElem?_eq_getElem hlt⟩
      have hm : ∀ b, True → b < w.heap.size → True ∧ wr.heap[b]? = w.heap[b]? := fun b _ h => ⟨trivial, BW.out.block b h⟩
      obtain ⟨a0, a1, a2, a3, a4⟩ := (ha.move hm).el hx
      have hlx : Lies n wr xv xl xf := (la _ (List.mem_of_getElem? hx)).below BW.out
      have HX : Aside ((xs.map El.v)[k]? = some xv) := by show _ = _; rw [List.getElem?_map, hx]; rfl
      simp only at a0 a1 a2 a3 a4
      obtain ⟨al, cl, af, cf, rfl, rfl⟩ := hlx.slices
      by_cases hlt2 : k < ys.length
      · obtain ⟨b', c2, e2, hbl2, _, hc3, hc4, _⟩ := hb.cells (by omega)
        simp only [Value.slice.injEq, true_and] at e2
        obtain ⟨rfl, rfl⟩ := e2
        obtain ⟨⟨yv, yl, yf⟩, hy⟩ : ∃ y, ys[k]? = some y := ⟨_, List.getElem?_eq_getElem hlt2⟩
        obtain ⟨b0, b1, b2, b3, b4⟩ := (hb.move hm).el hy
        have hly : Lies n wr yv yl yf := (lb _ (List.mem_of_getElem? hy)).below BW.out
        have HY : Aside ((ys.map El.v)[k]? = some yv) := by show _ = _; rw [List.getElem?_map, hy]; rfl
        simp only at b0 b1 b2 b3 b4
        obtain ⟨bl, dl, bf, df, rfl, rfl⟩ := hly.slices
        have hcall := fun W (hW : Below wr.heap.size wr W) => hg _ (List.mem_of_getElem? hx) _ (List.mem_of_getElem? hy) W (BW.out.trans (hW.mono BW.out.size))
        simp only at hcall
        have hbw : b' < wr.heap.size := lt_of_cell b0
        clear hx hy hm hlx hly la lb hg ha hb
        by_cases h0 : c xv yv = 0
        · rw [h0] at hcall
          go_wp2_with fail
          refine (hcall _ (((Below.refl _ _).alloc (Nat.le_refl _) _).alloc (by simp) _)).mono ?_
          rintro e w' ⟨rfl, hb'⟩
          go_wp2
          go_roundg (xs.length - (k + 1))
          case measure => omega
          case rel =>
            refine ⟨k + 1, by omega, by omega, by omega, by go_num, ?_, (show Aside _ from fun j x y hj hx hy => ?_)⟩
            · exact BW.out.trans ((((Below.refl _ _).alloc (Nat.le_refl _) _).alloc (by simp) _).trans (hb'.mono (by simp; omega)) |>.mono BW.out.size)
            · by_cases e : j = k
              · subst e
                rw [HX.out] at hx
                rw [HY.out] at hy
                cases hx
                cases hy
                exact h0
              · exact A.out j x y (by omega) hx hy
        · have h0' : (c xv yv != 0) = true := by simpa using h0
          go_wp2_with fail
          refine (hcall _ (((Below.refl _ _).alloc (Nat.le_refl _) _).alloc (by simp) _)).mono ?_
          rintro e w' ⟨rfl, hb'⟩
          go_wp2
          go_ret
          refine ⟨?_, BW.out.trans ((((Below.refl _ _).alloc (Nat.le_refl _) _).alloc (by simp) _).trans (hb'.mono (by simp; omega)) |>.mono BW.out.size)⟩
          rw [cmpL_hit c k _ _ xv yv HX.out HY.out A.out h0]
          rfl
      · have hz : ¬ (k : Int) < (ys.length : Int) := by omega
        clear hg la lb hb hlx hx hm
        go_wp2
        go_ret
        refine ⟨?_, BW.out.trans ((((Below.refl _ _).alloc (Nat.le_refl _) _)).mono BW.out.size)⟩
        rw [cmpL_more c k _ _ (by simpa using hlt) (by simp; omega) A.out]
        rfl
    · have hz : ¬ (k : Int) < (xs.length : Int) := by omega
      have he := cmpL_end c k (xs.map El.v) (ys.map El.v) (by simp; omega) (by simp; omega) A.out
      simp only [List.length_map] at he
      have HE := (show Aside _ from he)
      clear hg la lb ha hb he
      by_cases hl : xs.length < ys.length
      · have hl' : (xs.length : Int) < (ys.length : Int) := by omega
        go_wp2
        go_ret
        refine ⟨?_, BW.out⟩
        rw [HE.out, if_pos hl]
        rfl
      · have hl' : ¬ (xs.length : Int) < (ys.length : Int) := by omega
        go_wp2
        go_ret
        refine ⟨?_, BW.out⟩
        rw [HE.out, if_neg hl]
        rfl
end Go.Proofs.YtnkoblhdbccbeaaGreatDoor

namespace Go.Proofs.YtnkoblhdbccbeaaGreatDoor
open Go.RowKit

set_option maxHeartbeats 2000000 in
/-- slices.CompareFunc at fields. -/
theorem CompareFuncF_any (g : Nat) (eg : ∀ args w, (callFunc g args).run Tryz.prog w = .ok (.enter g args) w) (c : ByteArray × V → ByteArray × V → Int) (n : Nat)
    (xs ys : List Fl) (sa sb : Value) (w : World) (ha : RowAt (fun _ => True) w 52 6 sa xs.length (encFs xs)) (hb : RowAt (fun _ => True) w 52 6 sb ys.length (encFs ys))
    (la : ∀ e ∈ xs, Lies n w e.v e.l e.f) (lb : ∀ e ∈ ys, Lies n w e.v e.l e.f)
    (hg : ∀ x ∈ xs, ∀ y ∈ ys, ∀ W, Below w.heap.size w W → Calls Tryz.prog g #[.agg #[.string x.name, .int .i64 x.v.kind, .int .i64 x.v.num, .string x.v.text, x.l, x.f], .agg #[.string y.name, .int .i64 y.v.kind, .int .i64 y.v.num, .string y.v.text, y.l, y.f]] W fun e w' => e = .returned (.int .i64 (c x.pair y.pair)) ∧ Below W.heap.size W w') :
    Calls Tryz.prog 63 #[sa, sb, .func (.func g) #[] #[]] w fun e w' => e = .returned (.int .i64 (cmpL c (xs.map Fl.pair) (ys.map Fl.pair))) ∧ Below w.heap.size w w' := by
  obtain ⟨aa, ca, rfl⟩ := ha.slice
  obtain ⟨ab, cb, rfl⟩ := hb.slice
  have na := ha.2.1
  have nb := hb.2.1
  go_enter Tryz.func63, Tryz.ntmps63
  go_wp2
  go_loopg [6, 7, 8, 9, 10, 13] xs.length (fun gg _ _ _ _ _ i wr => ∃ k : Nat, k ≤ xs.length ∧ k ≤ ys.length ∧ xs.length - k ≤ gg ∧ i = .int .i64 k ∧ Aside (Below w.heap.size w wr) ∧ Aside (∀ j x y, j < k → (xs.map Fl.pair)[j]? = some x → (ys.map Fl.pair)[j]? = some y → c x y = 0))
  case atStart => exact ⟨0, Nat.zero_le _, Nat.zero_le _, by omega, rfl, Below.refl _ w, fun j _ _ hj => absurd hj (Nat.not_lt_zero _)⟩
  case round =>
    obtain ⟨k, hk, hkb, hgg, rfl, BW, A⟩ := hrel
    by_cases hlt : k < xs.length
    · obtain ⟨b, c', e1, hbl, _, hc1, hc2, _⟩ := ha.cells (by omega)
      simp only [Value.slice.injEq, true_and] at e1
      obtain ⟨rfl, rfl⟩ := e1
      obtain ⟨⟨xn, xv, xl, xf⟩, hx⟩ : ∃ x, xs[k]? = some x := ⟨_, List.getElem?_eq_getElem hlt⟩
      have hm : ∀ b, True → b < w.heap.size → True ∧ wr.heap[b]? = w.heap[b]? := fun b _ h => ⟨trivial, BW.out.block b h⟩
      obtain ⟨a0, a1, a2, a3, a4, a5⟩ := (ha.move hm).fl hx
      have hlx : Lies n wr xv xl xf := (la _ (List.mem_of_getElem? hx)).below BW.out
      have HX : Aside ((xs.map Fl.pair)[k]? = some (xn, xv)) := by show _ = _; rw [List.getElem?_map, hx]; rfl
      simp only at a0 a1 a2 a3 a4 a5
      obtain ⟨al, cl, af, cf, rfl, rfl⟩ := hlx.slices
      by_cases hlt2 : k < ys.length
      · obtain ⟨b', c2, e2, hbl2, _, hc3, hc4, _⟩ := hb.cells (by omega)
        simp only [Value.slice.injEq, true_and] at e2
        obtain ⟨rfl, rfl⟩ := e2
        obtain ⟨⟨yn, yv, yl, yf⟩, hy⟩ : ∃ y, ys[k]? = some y := ⟨_, List.getElem?_eq_getElem hlt2⟩
        obtain ⟨b0, b1, b2, b3, b4, b5⟩ := (hb.move hm).fl hy
        have hly : Lies n wr yv yl yf := (lb _ (List.mem_of_getElem? hy)).below BW.out
        have HY : Aside ((ys.map Fl.pair)[k]? = some (yn, yv)) := by show _ = _; rw [List.getElem?_map, hy]; rfl
        simp only at b0 b1 b2 b3 b4 b5
        obtain ⟨bl, dl, bf, df, rfl, rfl⟩ := hly.slices
        have hcall := fun W (hW : Below wr.heap.size wr W) => hg _ (List.mem_of_getElem? hx) _ (List.mem_of_getElem? hy) W (BW.out.trans (hW.mono BW.out.size))
        simp only [Fl.pair] at hcall
        have hbw : b' < wr.heap.size := lt_of_cell b0
        clear hx hy hm hlx hly la lb hg ha hb
        by_cases h0 : c (xn, xv) (yn, yv) = 0
        · rw [h0] at hcall
          go_wp2_with fail
          refine (hcall _ (((Below.refl _ _).alloc (Nat.le_refl _) _).alloc (by simp) _)).mono ?_
          rintro e w' ⟨rfl, hb'⟩
          go_wp2
          go_roundg (xs.length - (k + 1))
          case measure => omega
          case rel =>
            refine ⟨k + 1, by omega, by omega, by omega, by go_num, ?_, (show Aside _ from fun j x y hj hx hy => ?_)⟩
            · exact BW.out.trans ((((Below.refl _ _).alloc (Nat.le_refl _) _).alloc (by simp) _).trans (hb'.mono (by simp; omega)) |>.mono BW.out.size)
            · by_cases e : j = k
              · subst e
                rw [HX.out] at hx
                rw [HY.out] at hy
                cases hx
                cases hy
                exact h0
              · exact A.out j x y (by omega) hx hy
        · have h0' : (c (xn, xv) (yn, yv) != 0) = true := by simpa using h0
          go_wp2_with fail
          refine (hcall _ (((Below.refl _ _).alloc (Nat.le_refl _) _).alloc (by simp) _)).mono ?_
          rintro e w' ⟨rfl, hb'⟩
          go_wp2
          go_ret
          refine ⟨?_, BW.out.trans ((((Below.refl _ _).alloc (Nat.le_refl _) _).alloc (by simp) _).trans (hb'.mono (by simp; omega)) |>.mono BW.out.size)⟩
          rw [cmpL_hit c k _ _ (xn, xv) (yn, yv) HX.out HY.out A.out h0]
          rfl
      · have hz : ¬ (k : Int) < (ys.length : Int) := by omega
        clear hg la lb hb hlx hx hm
        go_wp2
        go_ret
        refine ⟨?_, BW.out.trans ((((Below.refl _ _).alloc (Nat.le_refl _) _)).mono BW.out.size)⟩
        rw [cmpL_more c k _ _ (by simpa using hlt) (by simp; omega) A.out]
        rfl
    · have hz : ¬ (k : Int) < (xs.length : Int) := by omega
      have he := cmpL_end c k (xs.map Fl.pair) (ys.map Fl.pair) (by simp; omega) (by simp; omega) A.out
      simp only [List.length_map] at he
      have HE := (show Aside _ from he)
      clear hg la lb ha hb he
      by_cases hl : xs.length < ys.length
      · have hl' : (xs.length : Int) < (ys.length : Int) := by omega
        go_wp2
        go_ret
        refine ⟨?_, BW.out⟩
        rw [HE.out, if_pos hl]
        rfl
      · have hl' : ¬ (xs.length : Int) < (ys.length : Int) := by omega
        go_wp2
        go_ret
        refine ⟨?_, BW.out⟩
        rw [HE.out, if_neg hl]
        rfl
end Go.Proofs.YtnkoblhdbccbeaaGreatDoor

namespace Go.Proofs.YtnkoblhdbccbeaaGreatDoor
open Go.RowKit

theorem cmpField_any (p q : ByteArray) (a b : V) (la fa lb fb : Value) (c : Int) (w : World) (hsa : ∃ a1 n1 c1 a2 n2 c2, la = .slice a1 n1 c1 ∧ fa = .slice a2 n2 c2) (hsb : ∃ a1 n1 c1 a2 n2 c2, lb = .slice a1 n1 c1 ∧ fb = .slice a2 n2 c2)
    (hc : ∀ W, Below w.heap.size w W → Calls Tryz.prog 33 #[.agg #[.int .i64 a.kind, .int .i64 a.num, .string a.text, la, fa], .agg #[.int .i64 b.kind, .int .i64 b.num, .string b.text, lb, fb]] W fun e w' => e = .returned (.int .i64 c) ∧ Below W.heap.size W w') :
    Calls Tryz.prog 64 #[.agg #[.string p, .int .i64 a.kind, .int .i64 a.num, .string a.text, la, fa], .agg #[.string q, .int .i64 b.kind, .int .i64 b.num, .string b.text, lb, fb]] w
      fun e w' => e = .returned (.int .i64 (if cmpT p q = 0 then c else cmpT p q)) ∧ Below w.heap.size w w' := by
  obtain ⟨a1, n1, c1, a2, n2, c2, rfl, rfl⟩ := hsa
  obtain ⟨a3, n3, c3, a4, n4, c4, rfl, rfl⟩ := hsb
  by_cases h : cmpT p q = 0
  · obtain rfl := cmpT_eq h
    rw [if_pos h]
    clear h
    go_enter Tryz.func64, Tryz.ntmps64
    go_wp2_with fail
    refine (hc _ (((Below.refl _ _).alloc (Nat.le_refl _) _).alloc (by simp) _)).mono ?_
    rintro e w' ⟨rfl, hb⟩
    go_wp2
    go_ret
    exact ⟨rfl, (((Below.refl _ _).alloc (Nat.le_refl _) _).alloc (by simp) _).trans (hb.mono (by simp; omega))⟩
  · rw [if_neg h]
    have hne : (p.toList == q.toList) = false := by
      apply beq_false_of_ne
      intro e
      apply h
      unfold cmpT
      rw [e]
      exact good_cmpT.refl q
    clear h hc
    go_enter Tryz.func64, Tryz.ntmps64
    go_wp2_with fail
    refine (Compare_any _ _ _).mono ?_
    rintro e w' ⟨rfl, rfl⟩
    go_wp2
    go_ret
    exact ⟨rfl, (((Below.refl _ _).alloc (Nat.le_refl _) _).alloc (by simp) _)⟩

/-- one level of the order. -/
def cmpStep (c : V → V → Int) (a b : V) : Int :=
  if a.kind = b.kind then
    (if a.kind = 1 ∨ a.kind = 2 then cmpI a.num b.num
     else if a.kind = 3 then cmpT a.text b.text
     else if a.kind = 4 then cmpL c a.list b.list
     else if a.kind = 5 then cmpL (cmpF c) a.fields b.fields
     else 0)
  else cmpI a.kind b.kind
theorem cmpV_step (n : Nat) (a b : V) : cmpV (n + 1) a b = cmpStep (cmpV n) a b := rfl

theorem Rep.shape {ok : Nat → Prop} {W : World} {n : Nat} {v : V} {l f : Value} (h : Rep ok n W v l f) : ∃ a1 n1 c1 a2 n2 c2, l = .slice a1 n1 c1 ∧ f = .slice a2 n2 c2 := by
  obtain ⟨a, b, c, d, e1, e2⟩ := h.slices
  exact ⟨a, _, b, c, _, d, e1, e2⟩
theorem enters33 (args : Array Value) (w : World) : (callFunc 33 args).run Tryz.prog w = .ok (.enter 33 args) w := enters_of Tryz.func33 (by kernel_rfl) rfl args w
theorem enters64 (args : Array Value) (w : World) : (callFunc 64 args).run Tryz.prog w = .ok (.enter 64 args) w := enters_of Tryz.func64 (by kernel_rfl) rfl args w

set_option maxHeartbeats 1000000 in
theorem VCmp_step (n : Nat) (c : V → V → Int) (a b : V) (la fa lb fb : Value) (w : World) (xs ys : List El) (fs gs : List Fl)
    (ea : xs.map El.v = a.list) (eb : ys.map El.v = b.list) (efa : fs.map Fl.pair = a.fields) (efb : gs.map Fl.pair = b.fields)
    (hxs : RowAt (fun _ => True) w 31 5 la xs.length (encEs xs)) (hys : RowAt (fun _ => True) w 31 5 lb ys.length (encEs ys))
    (hfs : RowAt (fun _ => True) w 52 6 fa fs.length (encFs fs)) (hgs : RowAt (fun _ => True) w 52 6 fb gs.length (encFs gs))
    (lx : ∀ e ∈ xs, Lies n w e.v e.l e.f) (ly : ∀ e ∈ ys, Lies n w e.v e.l e.f) (lf : ∀ e ∈ fs, Lies n w e.v e.l e.f) (lg : ∀ e ∈ gs, Lies n w e.v e.l e.f)
    (hg : ∀ x ∈ xs, ∀ y ∈ ys, ∀ W, Below w.heap.size w W → Calls Tryz.prog 33 #[.agg #[.int .i64 x.v.kind, .int .i64 x.v.num, .string x.v.text, x.l, x.f], .agg #[.int .i64 y.v.kind, .int .i64 y.v.num, .string y.v.text, y.l, y.f]] W fun e w' => e = .returned (.int .i64 (c x.v y.v)) ∧ Below W.heap.size W w')
    (hf : ∀ x ∈ fs, ∀ y ∈ gs, ∀ W, Below w.heap.size w W → Calls Tryz.prog 33 #[.agg #[.int .i64 x.v.kind, .int .i64 x.v.num, .string x.v.text, x.l, x.f], .agg #[.int .i64 y.v.kind, .int .i64 y.v.num, .string y.v.text, y.l, y.f]] W fun e w' => e = .returned (.int .i64 (c x.v y.v)) ∧ Below W.heap.size W w') :
    Calls Tryz.prog 33 #[.agg #[.int .i64 a.kind, .int .i64 a.num, .string a.text, la, fa], .agg #[.int .i64 b.kind, .int .i64 b.num, .string b.text, lb, fb]] w
      fun e w' => e = .returned (.int .i64 (cmpStep c a b)) ∧ Below w.heap.size w w' := by
  have hB : ∀ (o1 o2 : Obj), Below w.heap.size w ((w.alloc o1).alloc o2) := fun o1 o2 => ((Below.refl _ _).alloc (Nat.le_refl _) _).alloc (by simp) _
  have hL : ∀ W, Below w.heap.size w W → Calls Tryz.prog 62 #[la, lb, .func (.func 33) #[] #[]] W fun e w' => e = .returned (.int .i64 (cmpL c a.list b.list)) ∧ Below W.heap.size W w' := by
    intro W hW
    rw [← ea, ← eb]
    have hm : ∀ b, True → b < w.heap.size → True ∧ W.heap[b]? = w.heap[b]? := fun b _ h => ⟨trivial, hW.block b h⟩
    exact CompareFuncV_any 33 enters33 c n xs ys la lb W (hxs.move hm) (hys.move hm) (fun e he => (lx e he).below hW) (fun e he => (ly e he).below hW) fun x hx y hy W' hW' => hg x hx y hy W' (hW.trans (hW'.mono hW.size))
  have hF : ∀ W, Below w.heap.size w W → Calls Tryz.prog 63 #[fa, fb, .func (.func 64) #[] #[]] W fun e w' => e = .returned (.int .i64 (cmpL (cmpF c) a.fields b.fields)) ∧ Below W.heap.size W w' := by
    intro W hW
    rw [← efa, ← efb]
    have hm : ∀ b, True → b < w.heap.size → True ∧ W.heap[b]? = w.heap[b]? := fun b _ h => ⟨trivial, hW.block b h⟩
    exact CompareFuncF_any 64 enters64 (cmpF c) n fs gs fa fb W (hfs.move hm) (hgs.move hm) (fun e he => (lf e he).below hW) (fun e he => (lg e he).below hW) fun x hx y hy W' hW' =>
      cmpField_any x.name y.name x.v y.v x.l x.f y.l y.f (c x.v y.v) W' (lf x hx).shape (lg y hy).shape fun W2 hW2 => hf x hx y hy W2 ((hW.trans (hW'.mono hW.size)).trans (hW2.mono (Nat.le_trans hW.size hW'.size)))
  obtain ⟨a1, c1, rfl⟩ := hxs.slice
  obtain ⟨a2, c2, rfl⟩ := hys.slice
  obtain ⟨a3, c3, rfl⟩ := hfs.slice
  obtain ⟨a4, c4, rfl⟩ := hgs.slice
  clear hxs hys hfs hgs lx ly lf lg hg hf ea eb efa efb
  unfold cmpStep
  by_cases hk : a.kind = b.kind
  · rw [if_pos hk]
    generalize b.kind = kb at *
    subst hk
    by_cases h1 : a.kind = 1
    · rw [if_pos (.inl h1), h1]
      clear hL hF h1
      go_enter Tryz.func33, Tryz.ntmps33
      go_wp2_with (go_at_call 60; refine (cmpN_any _ _ _).mono ?_; rintro e w' ⟨rfl, rfl⟩)
      go_ret
      exact ⟨rfl, hB _ _⟩
    by_cases h2 : a.kind = 2
    · rw [if_pos (.inr h2), h2]
      clear hL hF h1 h2
      go_enter Tryz.func33, Tryz.ntmps33
      go_wp2_with (go_at_call 60; refine (cmpN_any _ _ _).mono ?_; rintro e w' ⟨rfl, rfl⟩)
      go_ret
      exact ⟨rfl, hB _ _⟩
    rw [if_neg (by omega)]
    by_cases h3 : a.kind = 3
    · rw [if_pos h3, h3]
      clear hL hF h1 h2 h3
      go_enter Tryz.func33, Tryz.ntmps33
      go_wp2_with (go_at_call 61; refine (Compare_any _ _ _).mono ?_; rintro e w' ⟨rfl, rfl⟩)
      go_ret
      exact ⟨rfl, hB _ _⟩
    rw [if_neg h3]
    by_cases h4 : a.kind = 4
    · rw [if_pos h4, h4]
      clear hF h1 h2 h3 h4
      go_enter Tryz.func33, Tryz.ntmps33
      go_wp2_with fail
      refine (hL _ (hB _ _)).mono ?_
      rintro e w' ⟨rfl, hb⟩
      go_wp2
      go_ret
      exact ⟨rfl, (hB _ _).trans (hb.mono (hB _ _).size)⟩
    rw [if_neg h4]
    by_cases h5 : a.kind = 5
    · rw [if_pos h5, h5]
      clear hL h1 h2 h3 h4 h5
      go_enter Tryz.func33, Tryz.ntmps33
      go_wp2_with fail
      refine (hF _ (hB _ _)).mono ?_
      rintro e w' ⟨rfl, hb⟩
      go_wp2
      go_ret
      exact ⟨rfl, (hB _ _).trans (hb.mono (hB _ _).size)⟩
    rw [if_neg h5]
    clear hL hF
    have e1 : (a.kind == 1) = false := by simpa using h1
    have e2 : (a.kind == 2) = false := by simpa using h2
    have e3 : (a.kind == 3) = false := by simpa using h3
    have e4 : (a.kind == 4) = false := by simpa using h4
    have e5 : (a.kind == 5) = false := by simpa using h5
    go_enter Tryz.func33, Tryz.ntmps33
    go_wp2
    go_ret
    exact ⟨rfl, hB _ _⟩
  · rw [if_neg hk]
    have hne : (a.kind != b.kind) = true := by simpa using hk
    clear hL hF
    go_enter Tryz.func33, Tryz.ntmps33
    go_wp2_with (go_at_call 59; refine (cmpK_any _ _ _).mono ?_; rintro e w' ⟨rfl, rfl⟩)
    go_ret
    exact ⟨rfl, hB _ _⟩

theorem VCmp_any : ∀ (n : Nat) (a b : V) (la fa lb fb : Value) (w : World), Lies n w a la fa → Lies n w b lb fb →
    Calls Tryz.prog 33 #[.agg #[.int .i64 a.kind, .int .i64 a.num, .string a.text, la, fa], .agg #[.int .i64 b.kind, .int .i64 b.num, .string b.text, lb, fb]] w
      fun e w' => e = .returned (.int .i64 (cmpV (n + 1) a b)) ∧ Below w.heap.size w w'
  | 0, a, b, la, fa, lb, fb, w, ⟨h1, h2, h3, h4⟩, ⟨k1, k2, k3, k4⟩ => by
    subst h3 h4 k3 k4
    exact VCmp_step 0 (cmpV 0) a b _ _ _ _ w [] [] [] [] h1.symm k1.symm h2.symm k2.symm RowAt.nil RowAt.nil RowAt.nil RowAt.nil (fun e he => by cases he) (fun e he => by cases he) (fun e he => by cases he) (fun e he => by cases he) (fun x hx => by cases hx) (fun x hx => by cases hx)
  | n + 1, a, b, la, fa, lb, fb, w, ⟨⟨xs, e1, e2, e3⟩, ⟨fs, f1, f2, f3⟩⟩, ⟨⟨ys, k1, k2, k3⟩, ⟨gs, g1, g2, g3⟩⟩ =>
    VCmp_step n (cmpV (n + 1)) a b la fa lb fb w xs ys fs gs e1 k1 f1 g1 e2 k2 f2 g2 e3 k3 f3 g3
      (fun x hx y hy W hW => VCmp_any n x.v y.v x.l x.f y.l y.f W (Lies.below hW (e3 x hx)) (Lies.below hW (k3 y hy)))
      (fun x hx y hy W hW => VCmp_any n x.v y.v x.l x.f y.l y.f W (Lies.below hW (f3 x hx)) (Lies.below hW (g3 y hy)))

theorem Same_any (n : Nat) (a b : V) (la fa lb fb : Value) (w : World) (ha : Lies n w a la fa) (hb : Lies n w b lb fb) :
    Calls Tryz.prog 18 #[.agg #[.int .i64 a.kind, .int .i64 a.num, .string a.text, la, fa], .agg #[.int .i64 b.kind, .int .i64 b.num, .string b.text, lb, fb]] w
      fun e w' => e = .returned (.bool (cmpV (n + 1) a b == 0)) ∧ Below w.heap.size w w' := by
  have hB : ∀ (o1 o2 : Obj), Below w.heap.size w ((w.alloc o1).alloc o2) := fun o1 o2 => ((Below.refl _ _).alloc (Nat.le_refl _) _).alloc (by simp) _
  have hc := fun W (hW : Below w.heap.size w W) => VCmp_any n a b la fa lb fb W (ha.below hW) (hb.below hW)
  obtain ⟨a1, n1, c1, a2, n2, c2, rfl, rfl⟩ := ha.shape
  obtain ⟨a3, n3, c3, a4, n4, c4, rfl, rfl⟩ := hb.shape
  clear ha hb
  generalize cmpV (n + 1) a b = r at *
  go_enter Tryz.func18, Tryz.ntmps18
  go_wp2_with fail
  refine (hc _ (hB _ _)).mono ?_
  rintro e w' ⟨rfl, hb⟩
  go_wp2
  go_ret
  exact ⟨rfl, (hB _ _).trans (hb.mono (hB _ _).size)⟩
end Go.Proofs.YtnkoblhdbccbeaaGreatDoor

namespace Go.Proofs.YtnkoblhdbccbeaaGreatDoor
open Go.RowKit

/-- where the first one is that is asked for; -1: nowhere. -/
def whereI {α : Type} (p : α → Bool) : List α → Int
  | [] => -1
  | x :: xs => if p x then 0 else if whereI p xs < 0 then -1 else 1 + whereI p xs
theorem whereI_hit {α : Type} (p : α → Bool) : ∀ (k : Nat) (l : List α) (x : α), l[k]? = some x → p x = true → (∀ j y, j < k → l[j]? = some y → p y = false) → whereI p l = k
  | 0, [], _, h, _, _ => by simp at h
  | 0, y :: l, x, h, hp, _ => by simp at h; subst h; simp [whereI, hp]
  | k + 1, [], _, h, _, _ => by simp at h
  | k + 1, y :: l, x, h, hp, hn => by
    have h0 := hn 0 y (by omega) rfl
    have ih := whereI_hit p k l x (by simpa using h) hp fun j z hj hz => hn (j + 1) z (by omega) (by simpa using hz)
    simp only [whereI, h0, ih]
    rw [if_neg (by simp), if_neg (by omega)]
    omega
theorem whereI_miss {α : Type} (p : α → Bool) : ∀ (l : List α), (∀ y ∈ l, p y = false) → whereI p l = -1
  | [], _ => rfl
  | y :: l, h => by
    simp [whereI, h y (by simp), whereI_miss p l fun z hz => h z (by simp [hz])]
theorem whereI_range {α : Type} (p : α → Bool) : ∀ (l : List α), whereI p l = -1 ∨ (0 ≤ whereI p l ∧ whereI p l < l.length)
  | [] => .inl rfl
  | y :: l => by
    have ih := whereI_range p l
    simp only [whereI]
    split
    · right; simp
    · split
      · exact .inl rfl
      · right; simp; omega

theorem beq_cmpT (a b : ByteArray) : (a.toList == b.toList) = decide (cmpT a b = 0) := by
  by_cases h : cmpT a b = 0
  · rw [cmpT_eq h]; simp [good_cmpT.refl]
  · have hne : ¬ a.toList = b.toList := fun e => h (by unfold cmpT; rw [e]; exact good_cmpT.refl b)
    rw [decide_eq_false h]; exact beq_false_of_ne hne
theorem gtr_cmpT (a b : ByteArray) : (!Op.bytesLess a.toList b.toList && !(a.toList == b.toList)) = decide (0 < cmpT a b) := by
  rw [bytesLess_eq, beq_cmpT]
  have : cmpB a.toList b.toList = cmpT a b := rfl
  rw [this]
  by_cases h1 : cmpT a b < 0
  · rw [decide_eq_true h1, decide_eq_false (show ¬ 0 < cmpT a b by omega)]; rfl
  · rw [decide_eq_false h1]
    by_cases h2 : cmpT a b = 0
    · rw [decide_eq_true h2, decide_eq_false (show ¬ 0 < cmpT a b by omega)]; rfl
    · rw [decide_eq_false h2, decide_eq_true (show 0 < cmpT a b by omega)]; rfl

def isName (name : ByteArray) (q : ByteArray × V) : Bool := decide (cmpT q.1 name = 0)
def isAbove (name : ByteArray) (q : ByteArray × V) : Bool := decide (0 < cmpT q.1 name)

/-- ahead of which field a new one is put. -/
def aboveI (name : ByteArray) (fs : List (ByteArray × V)) : Int := if whereI (isAbove name) fs < 0 then fs.length else whereI (isAbove name) fs
end Go.Proofs.YtnkoblhdbccbeaaGreatDoor

namespace Go.Proofs.YtnkoblhdbccbeaaGreatDoor
open Go.RowKit

theorem step_append_eq {P : Program} {ops : Array Oper} {o : Oper} {a : Act} {w : World} {K : Act → World → Prop} {Q : Exit → Act → World → Prop} {E : Prop}
    (hg : o.guard = none) (s x : Operand) (t tn : TypeId) (hop : o.op = Op.call { callee := Callee.builtin Builtin.append, args := #[s, x], argTypes := #[t, tn] })
    (vs vx : Value) (hs : a.eval s = vs) (hx : a.eval x = vx) (v' : Value) (w' : World) (hr : (Builtin.append_ #[t, tn] o.type #[vs, vx]).run P w = .ok v' w') (hK : K (a.put o.dst v') w') :
    if Region.wanted o (yielded ops a.tmps) = true then Oper.wp P o a w K Q else E := by
  have hw : Region.wanted o (yielded ops a.tmps) = true := by simp [Region.wanted, hg]
  rw [if_pos hw]
  unfold Oper.wp
  simp [execOp, hop, resolve, invoke, builtin, hs, hx, hr, Result.andThen]
  exact hK
theorem step_copy_eq {P : Program} {ops : Array Oper} {o : Oper} {a : Act} {w : World} {K : Act → World → Prop} {Q : Exit → Act → World → Prop} {E : Prop}
    (hg : o.guard = none) (s x : Operand) (t tn : TypeId) (hop : o.op = Op.call { callee := Callee.builtin Builtin.copy, args := #[s, x], argTypes := #[t, tn] })
    (vs vx : Value) (hs : a.eval s = vs) (hx : a.eval x = vx) (v' : Value) (w' : World) (hr : (Builtin.copy_ #[t, tn] o.type #[vs, vx]).run P w = .ok v' w') (hK : K (a.put o.dst v') w') :
    if Region.wanted o (yielded ops a.tmps) = true then Oper.wp P o a w K Q else E := by
  have hw : Region.wanted o (yielded ops a.tmps) = true := by simp [Region.wanted, hg]
  rw [if_pos hw]
  unfold Oper.wp
  simp [execOp, hop, resolve, invoke, builtin, hs, hx, hr, Result.andThen]
  exact hK

theorem encFs_one {fs : List Fl} (h : ∀ e ∈ fs, ∃ a1 n1 c1 a2 n2 c2, e.l = .slice a1 n1 c1 ∧ e.f = .slice a2 n2 c2) : ∀ u ∈ encFs fs, u.oneCell' = true := by
  intro u hu
  obtain ⟨e, he, hu⟩ := List.mem_flatMap.1 hu
  obtain ⟨a1, n1, c1, a2, n2, c2, h1, h2⟩ := h e he
  simp only [Fl.enc, h1, h2, List.mem_cons, List.not_mem_nil, or_false] at hu
  rcases hu with rfl | rfl | rfl | rfl | rfl | rfl <;> rfl
theorem encEs_one {es : List El} (h : ∀ e ∈ es, ∃ a1 n1 c1 a2 n2 c2, e.l = .slice a1 n1 c1 ∧ e.f = .slice a2 n2 c2) : ∀ u ∈ encEs es, u.oneCell' = true := by
  intro u hu
  obtain ⟨e, he, hu⟩ := List.mem_flatMap.1 hu
  obtain ⟨a1, n1, c1, a2, n2, c2, h1, h2⟩ := h e he
  simp only [El.enc, h1, h2, List.mem_cons, List.not_mem_nil, or_false] at hu
  rcases hu with rfl | rfl | rfl | rfl | rfl <;> rfl
theorem encFs_take : ∀ (fs : List Fl) (i : Nat), (encFs fs).take (i * 6) = encFs (fs.take i)
  | [], i => by simp [encFs]
  | f :: fs, 0 => by simp [encFs]
  | f :: fs, i + 1 => by
    have ih := encFs_take fs i
    unfold encFs at ih ⊢
    rw [List.take_succ_cons, List.flatMap_cons, List.flatMap_cons, show (i + 1) * 6 = f.enc.length + i * 6 by simp [Fl.enc]; omega, List.take_length_add_append, ih]
theorem encFs_drop : ∀ (fs : List Fl) (i : Nat), (encFs fs).drop (i * 6) = encFs (fs.drop i)
  | [], i => by simp [encFs]
  | f :: fs, 0 => by simp [encFs]
  | f :: fs, i + 1 => by
    have ih := encFs_drop fs i
    unfold encFs at ih ⊢
    rw [List.drop_succ_cons, List.flatMap_cons, show (i + 1) * 6 = f.enc.length + i * 6 by simp [Fl.enc]; omega, List.drop_length_add_append, ih]

theorem clear_rows {W : World} {B o n c : Nat} {cur : Array Value} (hg : W.heap[B]? = some (.cells cur 52 (0, 0))) (h : o + (n + 1) * 6 ≤ cur.size) :
    ∃ cs, cs.length = (n + 1) * 6 ∧ ∀ ty, (Builtin.clear_ #[29] ty #[.slice (some ⟨B, o, none⟩) (n + 1) c]).run Tryz.prog W = .ok (.tuple #[]) (W.setRow B (cur.toList.take o ++ cs ++ cur.toList.drop (o + (n + 1) * 6)).toArray) := by
  obtain ⟨i, hi, hz, hs, hby⟩ := info_parts infoF
  refine ⟨(Builtin.zeroCells (Value.agg #[.string ⟨#[]⟩, .int .i64 0, .int .i64 0, .string ⟨#[]⟩, .slice none 0 0, .slice none 0 0]).cells (n + 1)).toList, ?_, ?_⟩
  · have := size_zeroCells (Value.agg #[.string ⟨#[]⟩, .int .i64 0, .int .i64 0, .string ⟨#[]⟩, .slice none 0 0, .slice none 0 0]).cells (n + 1)
    rw [Array.length_toList, this]; rfl
  · have hl : (Builtin.zeroCells (Value.agg #[.string ⟨#[]⟩, .int .i64 0, .int .i64 0, .string ⟨#[]⟩, .slice none 0 0, .slice none 0 0]).cells (n + 1)).toList.length = (n + 1) * 6 := by
      have := size_zeroCells (Value.agg #[.string ⟨#[]⟩, .int .i64 0, .int .i64 0, .string ⟨#[]⟩, .slice none 0 0, .slice none 0 0]).cells (n + 1)
      rw [Array.length_toList, this]; rfl
    have h1 : ∀ v ∈ (Builtin.zeroCells (Value.agg #[.string ⟨#[]⟩, .int .i64 0, .int .i64 0, .string ⟨#[]⟩, .slice none 0 0, .slice none 0 0]).cells (n + 1)).toList, v.oneCell' = true := by
      intro v hv
      simp only [Builtin.zeroCells, Array.mem_toList_iff, Array.mem_map, Array.mem_range] at hv
      obtain ⟨r, _, rfl⟩ := hv
      have hr : r % 6 < 6 := Nat.mod_lt _ (by omega)
      have : ∀ q, q < 6 → (#[Value.string ⟨#[]⟩, .int .i64 0, .int .i64 0, .string ⟨#[]⟩, .slice none 0 0, .slice none 0 0][q]!).oneCell' = true := by
        intro q hq
        match q, hq with
        | 0, _ => rfl
        | 1, _ => rfl
        | 2, _ => rfl
        | 3, _ => rfl
        | 4, _ => rfl
        | 5, _ => rfl
      exact this _ hr
    have hst := run_storeCells_at Tryz.prog B o 52 _ 0 cur W hg (by rw [hl]; simpa using h) h1
    rw [hl] at hst
    simp only [Nat.add_zero] at hst
    intro ty
    simp [Builtin.clear_, run_underlying Tryz.underlying29, zeroValue, typeInfo, hi, hz, hst]

theorem setRow_grown {w : World} {B : Nat} (cs : Array Value) : w.grownBy (w.setRow B cs) (some B) :=
  ⟨rfl, rfl, rfl, by simp, fun k _ hk => setRow_other w B k _ (fun e => hk (by rw [e]))⟩

end Go.Proofs.YtnkoblhdbccbeaaGreatDoor

namespace Go.Proofs.YtnkoblhdbccbeaaGreatDoor
open Go.RowKit

def I64 (x : Int) : Prop := -9223372036854775808 ≤ x ∧ x ≤ 9223372036854775807
def wordAt : Nat → ByteArray
  | 0 => ⟨#[]⟩
  | 1 => ⟨#[97]⟩
  | 2 => ⟨#[98]⟩
  | 3 => ⟨#[97, 98]⟩
  | 4 => ⟨#[0]⟩
  | 5 => ⟨#[195, 169]⟩
  | 6 => ⟨#[122, 0]⟩
  | _ => ⟨#[108, 111, 110, 103, 44, 32, 97, 110, 100, 32, 108, 111, 110, 103, 101, 114]⟩
theorem wordAt_size (i : Nat) : (wordAt i).size ≤ 16 := by
  unfold wordAt
  split <;> decide
def nameAt : Nat → ByteArray
  | 0 => ⟨#[97]⟩
  | 1 => ⟨#[98]⟩
  | 2 => ⟨#[99]⟩
  | _ => ⟨#[110]⟩
theorem nameAt_size (i : Nat) : (nameAt i).size ≤ 1 := by
  unfold nameAt
  split <;> decide
/-- what a value's number and text are beside its kind. -/
def Wd (k m : Int) (t : ByteArray) : Prop := (∃ i, t = wordAt i) ∧ (k = 1 → m = 0 ∨ m = 1)
theorem Wd.size {k m : Int} {t : ByteArray} (h : Wd k m t) : t.size ≤ 16 := by
  obtain ⟨⟨i, rfl⟩, _⟩ := h
  exact wordAt_size i
theorem Wd.no (k m : Int) (h : k ≠ 1) : Wd k m ⟨#[]⟩ := ⟨⟨0, rfl⟩, fun e => absurd e h⟩
/-- a value as the law makes them, so deep. -/
def Nice : Nat → V → Prop
  | 0, v => 0 ≤ v.kind ∧ v.kind ≤ 5 ∧ I64 v.num ∧ Wd v.kind v.num v.text ∧ v.list = [] ∧ v.fields = []
  | n + 1, v => 0 ≤ v.kind ∧ v.kind ≤ 5 ∧ I64 v.num ∧ Wd v.kind v.num v.text ∧ v.list.length ≤ 3 ∧ v.fields.length ≤ 4 ∧ Rises v.fields ∧ (∀ x ∈ v.list, Nice n x) ∧ (∀ p ∈ v.fields, (∃ i, p.1 = nameAt i) ∧ Nice n p.2)
theorem Nice.plain : ∀ (n : Nat) {v : V}, 0 ≤ v.kind → v.kind ≤ 5 → I64 v.num → Wd v.kind v.num v.text → v.list = [] → v.fields = [] → Nice n v
  | 0, _, h1, h2, h3, h4, h5, h6 => ⟨h1, h2, h3, h4, h5, h6⟩
  | n + 1, _, h1, h2, h3, h4, h5, h6 => ⟨h1, h2, h3, h4, by simp [h5], by simp [h6], (by rw [h6]; trivial), fun x hx => (by rw [h5] at hx; cases hx), fun x hx => (by rw [h6] at hx; cases hx)⟩

theorem nameAt_less {i j : Nat} (h : i < j) (hj : j < 4) : cmpT (nameAt i) (nameAt j) < 0 := by
  rw [cmpT_data]
  obtain rfl | rfl | rfl : j = 1 ∨ j = 2 ∨ j = 3 := by omega
  · obtain rfl : i = 0 := by omega
    decide
  · obtain rfl | rfl : i = 0 ∨ i = 1 := by omega
    · decide
    · decide
  · obtain rfl | rfl | rfl : i = 0 ∨ i = 1 ∨ i = 2 := by omega
    · decide
    · decide
    · decide
/-- the two tables of the law. -/
structure Tabs (w : World) : Prop where
  words : ∀ i, i < 8 → w.cell? ⟨0, i, none⟩ = some (.string (wordAt i))
  names : ∀ i, i < 4 → w.cell? ⟨1, i, none⟩ = some (.string (nameAt i))
theorem Tabs.below {w w' : World} (h : Tabs w) (hb : Below w.heap.size w w') : Tabs w' :=
  ⟨fun i hi => by rw [hb.cell (lt_of_cell (h.words i hi))]; exact h.words i hi, fun i hi => by rw [hb.cell (lt_of_cell (h.names i hi))]; exact h.names i hi⟩

/-- a slice of bytes. -/
def BytesAt (W : World) (s : Value) (bs : List UInt8) : Prop :=
  ∃ (a : Option Addr) (cap : Nat), s = .slice a bs.length cap ∧ bs.length ≤ cap ∧ cap ≤ 9223372036854775807 ∧ (bs ≠ [] → ∃ b o, a = some ⟨b, o, none⟩ ∧ ∀ (j : Nat) (u : UInt8), bs[j]? = some u → W.cell? ⟨b, o + j, none⟩ = some (.int .u8 u.toNat))
theorem BytesAt.below {W W' : World} {s : Value} {bs : List UInt8} (h : BytesAt W s bs) (hb : Below W.heap.size W W') : BytesAt W' s bs := by
  obtain ⟨a, cap, h1, h2, h3, h4⟩ := h
  refine ⟨a, cap, h1, h2, h3, fun hne => ?_⟩
  obtain ⟨b, o, h5, h6⟩ := h4 hne
  exact ⟨b, o, h5, fun j u hj => by rw [hb.cell (lt_of_cell (h6 j u hj))]; exact h6 j u hj⟩

theorem rises_snoc {nm : ByteArray} {x : V} : ∀ {ps : List (ByteArray × V)}, Rises ps → (∀ p ∈ ps, cmpT p.1 nm < 0) → Rises (ps ++ [(nm, x)])
  | [], _, _ => trivial
  | [p], _, h => ⟨h p (by simp), trivial⟩
  | p :: q :: ps, hr, h => ⟨hr.1, rises_snoc hr.2 fun r hr => h r (List.mem_cons_of_mem _ hr)⟩

set_option maxHeartbeats 1000000 in
theorem one_any (q : Int) (h0 : 0 ≤ q) (h1 : q ≤ 42) (w : World) : Calls Tryz.prog 41 #[.int .u8 q] w fun e w' => ∃ m, e = .returned (.int .i64 m) ∧ I64 m ∧ w' = w := by
  by_cases e0 : q % 8 = 0
  · go_enter Tryz.func41, Tryz.ntmps41
    go_wp2
    go_ret
    exact ⟨_, rfl, ⟨by omega, by omega⟩, rfl⟩
  by_cases e1 : q % 8 = 1
  · go_enter Tryz.func41, Tryz.ntmps41
    go_wp2
    go_ret
    exact ⟨_, rfl, ⟨by omega, by omega⟩, rfl⟩
  by_cases e2 : q % 8 = 2
  · go_enter Tryz.func41, Tryz.ntmps41
    go_wp2
    go_ret
    exact ⟨_, rfl, ⟨by omega, by omega⟩, rfl⟩
  have f0 : (q % 8 == 0) = false := by simpa using e0
  have f1 : (q % 8 == 1) = false := by simpa using e1
  have f2 : (q % 8 == 2) = false := by simpa using e2
  go_enter Tryz.func41, Tryz.ntmps41
  go_wp2
  go_ret
  exact ⟨_, rfl, ⟨by omega, by omega⟩, rfl⟩
end Go.Proofs.YtnkoblhdbccbeaaGreatDoor
