/-
  Where a number stands among a heap's records: slices.BinarySearchFunc, and the heap's place, by their contracts. No conditions beyond those stated.
-/
import Derived.Test.YtjihfbahcebljaaDoorVCmp1
import Derived.Test.YtjihfbahcebljaaDoorHMem
import Derived.Shelf.Abstract
namespace Go.Proofs.YtjihfbahcebljaaDoor
open Go.RowKit

theorem placeH1_any (i k : Int) (v : V) (l f : Value) (w : World) (hs : ∃ a1 n1 c1 a2 n2 c2, l = .slice a1 n1 c1 ∧ f = .slice a2 n2 c2) :
    Calls Tryd.prog 26 #[.agg #[.int .i64 i, .int .i64 v.kind, .int .i64 v.num, .string v.text, l, f], .int .i64 k] w fun e w' => e = .returned (.int .i64 (cmpI i k)) ∧ Below w.heap.size w w' := by
  obtain ⟨a1, n1, c1, a2, n2, c2, rfl, rfl⟩ := hs
  go_enter Tryd.func26, Tryd.ntmps26
  go_wp2_with fail
  refine (cmpN_any i k _).mono ?_
  rintro e w1 ⟨rfl, rfl⟩
  go_wp2_with fail
  go_ret
  exact ⟨rfl, (Below.refl _ _).alloc (Nat.le_refl _) _⟩
theorem entersPlaceH1 (args : Array Value) (w : World) : (callFunc 26 args).run Tryd.prog w = .ok (.enter 26 args) w := enters_of Tryd.func26 (by kernel_rfl) rfl args w

theorem row_doc_below {base : Nat} {w wr : World} {b c n : Nat} {ds : List Dl} (hB : Below w.heap.size w wr) (h : w.ownsRow base 46 6 (.slice (some ⟨b, 0, none⟩) n c) n (encDs ds)) : wr.ownsRow base 46 6 (.slice (some ⟨b, 0, none⟩) n c) n (encDs ds) := ownsRow_cells (below_cells hB) h

set_option maxRecDepth 100000 in
set_option maxHeartbeats 2000000 in
theorem SearchD_any (base : Nat) (xs : List Dl) (sa : Value) (k : Int) (w : World)
    (ha : w.ownsRow base 46 6 sa xs.length (encDs xs)) (la : ∀ e ∈ xs, Lies 4 w e.v e.l e.f) (na : xs.length ≤ 1000000) (r : Nat) (p : Bool) (hr : r ≤ xs.length)
    (h1 : ∀ j x, j < r → xs[j]? = some x → cmpI x.id k < 0) (h2 : ∀ j x, r ≤ j → xs[j]? = some x → 0 ≤ cmpI x.id k) (hp : ∀ x, xs[r]? = some x → (cmpI x.id k == 0) = p) (hp0 : r = xs.length → p = false) :
    Calls Tryd.prog 25 #[sa, .int .i64 k, .func (.func 26) #[] #[]] w fun e w' => e = .returned (.tuple #[.int .i64 (r : Int), .bool p]) ∧ Below w.heap.size w w' := by
  obtain ⟨aa, ca, rfl⟩ := slice_of_row ha
  have eF := entersPlaceH1
  have HH := (show Hid _ from And.intro h1 (And.intro h2 (And.intro hp hp0)))
  clear h1 h2 hp hp0
  go_enter Tryd.func25, Tryd.ntmps25
  go_wp2
  go_loopg [9, 10, 11] xs.length (fun gg i j _ wr => ∃ a b : Nat, a ≤ r ∧ r ≤ b ∧ b ≤ xs.length ∧ b - a ≤ gg ∧ i = .int .i64 a ∧ j = .int .i64 b ∧ Aside (Below w.heap.size w wr))
  case atStart => exact ⟨0, xs.length, Nat.zero_le _, hr, Nat.le_refl _, by omega, rfl, rfl, Below.refl _ w⟩
  case round =>
    obtain ⟨a, b, hra, hrb, hbl, hgg, rfl, rfl, BW⟩ := hrel
    by_cases hlt : a < b
    · have zk : (a : Int) < (b : Int) := by omega
      obtain ⟨m, hm⟩ : ∃ m : Nat, ((a : Int) + (b : Int)) / 2 = (m : Int) := ⟨(a + b) / 2, by omega⟩
      have hma : a ≤ m := by omega
      have hmb : m < b := by omega
      obtain ⟨b0, c', cur, e1, hb0, _, hc1, hc2, _⟩ := cells_of_row ha (by omega)
      simp only [Value.slice.injEq, true_and] at e1
      obtain ⟨rfl, rfl⟩ := e1
      obtain ⟨⟨xn, xv, xl, xf⟩, hx⟩ : ∃ x, xs[m]? = some x := ⟨_, List.getElem?_eq_getElem (by omega)⟩
      obtain ⟨a0, a1, a2, a3, a4, a5⟩ := row_doc (row_doc_below BW.out ha) hx
      have hlx : Lies 4 wr xv xl xf := (la _ (List.mem_of_getElem? hx)).below BW.out
      simp only at a0 a1 a2 a3 a4 a5
      obtain ⟨al, cl, af, cf, rfl, rfl⟩ := hlx.slices
      have hcall := placeH1_any xn k xv (.slice al xv.list.length cl) (.slice af xv.fields.length cf) wr ⟨_, _, _, _, _, _, rfl, rfl⟩
      have zm : (m : Int) < (xs.length : Int) := by omega
      have HX := (show Hid _ from hx)
      obtain ⟨c, hc⟩ : ∃ c, cmpI xn k = c := ⟨_, rfl⟩
      have HC := (show Hid _ from hc)
      rw [hc] at hcall
      clear hx hlx la ha hc
      by_cases hc0 : c < 0
      · have hnr : m + 1 ≤ r := by
          rcases Nat.lt_or_ge m r with h | h
          · omega
          · have h' := HH.out.2.1 m _ h HX.out
            simp only at h'
            rw [HC.out] at h'
            omega
        go_wp2_with fail
        refine hcall.mono ?_
        rintro e w' ⟨rfl, hb'⟩
        go_wp2
        go_roundg (b - (m + 1))
        case measure => omega
        case rel => exact ⟨m + 1, b, by omega, by omega, by omega, by omega, by go_num, rfl, BW.out.trans (hb'.mono BW.out.size)⟩
      · have hnr : r ≤ m := by
          rcases Nat.lt_or_ge m r with h | h
          · exact absurd (by rw [← HC.out]; exact HH.out.1 m _ h HX.out) hc0
          · omega
        go_wp2_with fail
        refine hcall.mono ?_
        rintro e w' ⟨rfl, hb'⟩
        go_wp2
        go_roundg (m - a)
        case measure => omega
        case rel => exact ⟨a, m, by omega, by omega, by omega, by omega, rfl, rfl, BW.out.trans (hb'.mono BW.out.size)⟩
    · obtain rfl : r = a := by omega
      obtain rfl : b = r := by omega
      have zk : ¬ (b : Int) < (b : Int) := by omega
      by_cases hz : b < xs.length
      · obtain ⟨b0, c', cur, e1, hb0, _, hc1, hc2, _⟩ := cells_of_row ha (by omega)
        simp only [Value.slice.injEq, true_and] at e1
        obtain ⟨rfl, rfl⟩ := e1
        obtain ⟨⟨xn, xv, xl, xf⟩, hx⟩ : ∃ x, xs[b]? = some x := ⟨_, List.getElem?_eq_getElem (by omega)⟩
        obtain ⟨a0, a1, a2, a3, a4, a5⟩ := row_doc (row_doc_below BW.out ha) hx
        have hlx : Lies 4 wr xv xl xf := (la _ (List.mem_of_getElem? hx)).below BW.out
        simp only at a0 a1 a2 a3 a4 a5
        obtain ⟨al, cl, af, cf, rfl, rfl⟩ := hlx.slices
        have hcall := placeH1_any xn k xv (.slice al xv.list.length cl) (.slice af xv.fields.length cf) wr ⟨_, _, _, _, _, _, rfl, rfl⟩
        have hpx := HH.out.2.2.1 _ hx
        simp only at hpx
        obtain ⟨c, hc⟩ : ∃ c, cmpI xn k = c := ⟨_, rfl⟩
        rw [hc] at hcall hpx
        have zm : (b : Int) < (xs.length : Int) := by omega
        clear hx hlx la ha hc
        go_wp2_with fail
        refine hcall.mono ?_
        rintro e w' ⟨rfl, hb'⟩
        go_wp2
        go_ret2
        exact ⟨by rw [← hpx]; rfl, BW.out.trans (hb'.mono BW.out.size)⟩
      · have zm : ¬ (b : Int) < (xs.length : Int) := by omega
        have hpf := HH.out.2.2.2 (by omega)
        subst hpf
        clear la ha
        go_wp2_with fail
        go_ret2
        exact ⟨rfl, BW.out⟩

theorem cmpI_lt {a b : Int} : cmpI a b < 0 ↔ a < b := by unfold cmpI; repeat' split <;> omega
theorem cmpI_ge {a b : Int} : 0 ≤ cmpI a b ↔ b ≤ a := by unfold cmpI; repeat' split <;> omega
theorem cmpI_eq {a b : Int} : cmpI a b = 0 ↔ a = b := by unfold cmpI; repeat' split <;> omega
theorem recs_at {ds : List Dl} {rs : List Rec} (h : ds.map Dl.pairR = rs) {j : Nat} {x : Dl} (hx : ds[j]? = some x) : rs[j]? = some (x.id, x.v) := by
  rw [← h, List.getElem?_map, hx]; rfl

theorem placeH_any {base B : Nat} {rs : List Rec} {last lo : Int} (k : Int) (w : World) (h : HeapAt base w B rs last) (hr : RisesR lo rs) (hn : rs.length ≤ 1000000) :
    Calls Tryd.prog 20 #[.pointer (some ⟨B, 0, none⟩), .int .i64 k] w fun e w' => e = .returned (.tuple #[.int .i64 (aheadR k rs : Int), .bool (getR k rs).isSome]) ∧ Below w.heap.size w w' := by
  obtain ⟨h0, s, ds, h1, h2, h3, h4⟩ := h
  have hl : ds.length = rs.length := by rw [← h1, List.length_map]
  have hcall := SearchD_any base ds s k w h3 h4 (by omega) (aheadR k rs) (getR k rs).isSome (by rw [hl]; exact ahead_le k rs)
    (fun j x hj hx => cmpI_lt.2 (ahead_lt k rs j _ hj (recs_at h1 hx))) (fun j x hj hx => cmpI_ge.2 (ahead_ge k rs hr j _ hj (recs_at h1 hx)))
    (fun x hx => by
      have := ahead_is hr (recs_at h1 hx)
      cases hg : (getR k rs).isSome with
      | true => rw [hg] at this; have e := this.2 rfl; simp only at e; rw [cmpI_eq.2 e]; rfl
      | false => rw [hg] at this; exact beq_false_of_ne fun e => by have := this.1 (cmpI_eq.1 e); cases this)
    (fun e => by rw [ahead_end hr (by omega)]; rfl)
  have c0 : w.cell? ⟨B, 0, none⟩ = some s := by simp [World.cell?, h2]
  have c1 : w.cell? ⟨B, 1, none⟩ = some (.int .i64 last) := by simp [World.cell?, h2]
  clear h1 h2 h3 h4 hr hn hl
  go_enter Tryd.func20, Tryd.ntmps20
  go_wp2_with fail
  refine hcall.mono ?_
  rintro e w' ⟨rfl, hb⟩
  go_wp2_with fail
  go_ret2
  exact ⟨rfl, hb⟩
end Go.Proofs.YtjihfbahcebljaaDoor
