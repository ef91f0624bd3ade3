/-
  package value's Valid at values that were read of a key and may not be: false. Conditions: as stated.
-/
import Derived.Test.YtehjdamdlokoaaaDoorKP4
namespace Go.Proofs.YtehjdamdlokoaaaDoor
open Go.RowKit

theorem first_idx (G : Nat → Prop) : ∀ n, (¬ ∀ i, i < n → G i) → ∃ j, j < n ∧ ¬ G j ∧ ∀ i, i < j → G i
  | 0, h => absurd (fun i hi => by omega) h
  | n + 1, h => by
    by_cases hn : ∀ i, i < n → G i
    · refine ⟨n, by omega, fun hg => h fun i hi => ?_, hn⟩
      by_cases e : i = n
      · rw [e]; exact hg
      · exact hn i (by omega)
    · obtain ⟨j, h1, h2, h3⟩ := first_idx G n hn
      exact ⟨j, by omega, h2, h3⟩
theorem rises_of_adj : ∀ (l : List (ByteArray × V)), (∀ j a b, l[j]? = some a → l[j + 1]? = some b → cmpT a.1 b.1 < 0) → Rises l
  | [], _ => trivial
  | [_], _ => trivial
  | a :: b :: r, h => ⟨h 0 a b rfl rfl, rises_of_adj (b :: r) fun j x y h1 h2 => h (j + 1) x y (by simpa using h1) (by simpa using h2)⟩

def ValidNot (n : Nat) : Prop := ∀ (v : V) (l f : Value) (w : World), Lies n w v l f → PK n v → ¬ VOk n v → U8 w → Calls Tryd.prog 17 #[.agg #[.int .i64 v.kind, .int .i64 v.num, .string v.text, l, f]] w fun e w' => e = .returned (.bool false) ∧ Below w.heap.size w w'

set_option maxHeartbeats 2000000 in
theorem validList_not (n : Nat) (ih : ValidNot n) (J : Nat) (xs : List El) (sl : Value) (w : World) (hrow : RowAt (fun _ => True) w 28 5 sl xs.length (encEs xs)) (hl : ∀ e ∈ xs, Lies n w e.v e.l e.f) (hJ : J < xs.length) (hp : ∀ e ∈ xs, PK n e.v) (hv : ∀ i e, i < J → xs[i]? = some e → VOk n e.v) (hnv : ∀ e, xs[J]? = some e → ¬ VOk n e.v) (hU : U8 w) :
    Calls Tryd.prog 28 #[sl] w fun e w' => e = .returned (.bool false) ∧ Below w.heap.size w w' := by
  obtain ⟨aa, ca, rfl⟩ := hrow.slice
  have na := hrow.2.1
  have HH := (show Hid _ from And.intro hrow (And.intro hl (And.intro hv (And.intro hU (And.intro hp hnv)))))
  have hI := (show Hid _ from And.intro ih ih)
  clear hrow hl hv ih hU hp hnv
  go_enter Tryd.func28, Tryd.ntmps28
  go_wp2_with fail
  go_loopg [4, 7] xs.length (fun gg _ i wr => ∃ k : Nat, k ≤ J ∧ xs.length - k ≤ gg ∧ i = .int .i64 k ∧ Aside (Below w.heap.size w wr))
  case atStart => exact ⟨0, Nat.zero_le _, by omega, rfl, Below.refl _ _⟩
  case round =>
    obtain ⟨k, hk, hgg, rfl, B⟩ := hrel
    have hlt : k < xs.length := by omega
    obtain ⟨hrow, hl, hv, hU, hp, hnv⟩ := HH.out
    obtain ⟨b0, c', e1, hb0, _, hc1, hc2, _⟩ := hrow.cells (by omega)
    simp only [Value.slice.injEq, true_and] at e1
    obtain ⟨rfl, rfl⟩ := e1
    obtain ⟨⟨xv, xl, xf⟩, hx⟩ : ∃ x, xs[k]? = some x := ⟨_, List.getElem?_eq_getElem hlt⟩
    obtain ⟨a0, a1, a2, a3, a4⟩ := (hrow.move fun c _ hl => ⟨trivial, B.out.block c hl⟩).el hx
    have hlx : Lies n wr xv xl xf := (hl _ (List.mem_of_getElem? hx)).below B.out
    simp only at a0 a1 a2 a3 a4
    obtain ⟨al, cl, af, cf, rfl, rfl⟩ := hlx.slices
    obtain ⟨O, hO⟩ : ∃ O, O = Obj.cells #[.int .i64 xv.kind, .int .i64 xv.num, .string xv.text, .slice al xv.list.length cl, .slice af xv.fields.length cf] 28 := ⟨_, rfl⟩
    have hBa : Below wr.heap.size wr (wr.alloc O) := (Below.refl _ _).alloc (Nat.le_refl _) _
    have hBw := B.out.trans (hBa.mono B.out.size)
    have zk : (k : Int) < (xs.length : Int) := by omega
    have H2 := (show Hid _ from And.intro hBw hO)
    by_cases hkJ : k = J
    · have hvx : ¬ VOk n xv := hnv _ (by rw [← hkJ]; exact hx)
      have hpx : PK n xv := hp _ (List.mem_of_getElem? hx)
      have hcall := hI.out.1 xv _ _ _ (hlx.below hBa) hpx hvx (hU.later hBw)
      rw [hO] at hcall
      clear hrow hl hv hU hp hnv hlx hvx hpx hBa hBw hO hx hkJ
      go_wp2_with fail
      refine hcall.mono ?_
      rintro e w2 ⟨rfl, hb2⟩
      have H3 := (show Hid _ from hb2)
      clear hcall hb2
      go_wp2_with fail
      go_ret
      obtain ⟨hBw, hO⟩ := H2.out
      have hb2 := H3.out
      rw [← hO] at hb2
      exact ⟨rfl, hBw.trans (hb2.mono hBw.size)⟩
    · have hvx : VOk n xv := hv k _ (by omega) hx
      have hcall := Valid_any n xv _ _ _ (hlx.below hBa) hvx (hU.later hBw)
      rw [hO] at hcall
      clear hrow hl hv hU hp hnv hlx hvx hBa hBw hO hx
      go_wp2_with fail
      refine hcall.mono ?_
      rintro e w2 ⟨rfl, hb2⟩
      clear hcall
      go_wp2_with fail
      go_roundg (xs.length - (k + 1))
      case measure => omega
      case rel =>
        obtain ⟨hBw, hO⟩ := H2.out
        rw [← hO] at hb2
        exact ⟨k + 1, by omega, by omega, by go_num, hBw.trans (hb2.mono hBw.size)⟩

/-- a field that may stand where it stands. -/
def FGood (n : Nat) (f : List (ByteArray × V)) (i : Nat) : Prop := ∀ p, f[i]? = some p → (∀ j q, i = j + 1 → f[j]? = some q → cmpT q.1 p.1 < 0) ∧ Lib.validD p.1.data.toList = true ∧ VOk n p.2
theorem str_no {p q : ByteArray} (h : ¬ cmpT p q < 0) : Op.bytesLess p.toList q.toList = false := by
  rw [bytesLess_eq]
  exact decide_eq_false h

set_option maxHeartbeats 8000000 in
theorem validFields_not (n : Nat) (ih : ValidNot n) (J : Nat) (xs : List Fl) (sl : Value) (w : World) (hrow : RowAt (fun _ => True) w 50 6 sl xs.length (encFs xs)) (hl : ∀ e ∈ xs, Lies n w e.v e.l e.f) (hJ : J < xs.length) (hp : ∀ e ∈ xs, e.name.size ≤ 1000000 ∧ PK n e.v) (hv : ∀ i, i < J → FGood n (xs.map Fl.pair) i) (hnv : ¬ FGood n (xs.map Fl.pair) J) (hU : U8 w) :
    Calls Tryd.prog 29 #[sl] w fun e w' => e = .returned (.bool false) ∧ Below w.heap.size w w' := by
  obtain ⟨aa, ca, rfl⟩ := hrow.slice
  have na := hrow.2.1
  have HH := (show Hid _ from And.intro hrow (And.intro hl (And.intro hv (And.intro hU (And.intro hp hnv)))))
  have hI := (show Hid _ from And.intro ih ih)
  clear hrow hl hv ih hU hp hnv
  go_enter Tryd.func29, Tryd.ntmps29
  go_wp2_with fail
  go_loopg [3, 4, 7] xs.length (fun gg _ _ i wr => ∃ k : Nat, k ≤ J ∧ xs.length - k ≤ gg ∧ i = .int .i64 k ∧ Aside (Below w.heap.size w wr))
  case atStart => exact ⟨0, Nat.zero_le _, by omega, rfl, Below.refl _ _⟩
  case round =>
    obtain ⟨k, hk, hgg, rfl, B⟩ := hrel
    have hlt : k < xs.length := by omega
    obtain ⟨hrow, hl, hv, hU, hp, hnv⟩ := HH.out
    obtain ⟨b0, c', e1, hb0, _, hc1, hc2, _⟩ := hrow.cells (by omega)
    simp only [Value.slice.injEq, true_and] at e1
    obtain ⟨rfl, rfl⟩ := e1
    obtain ⟨⟨xn, xv, xl, xf⟩, hx⟩ : ∃ x, xs[k]? = some x := ⟨_, List.getElem?_eq_getElem hlt⟩
    have hrm := hrow.move fun c _ hl => ⟨trivial, B.out.block c hl⟩
    obtain ⟨a0, a1, a2, a3, a4, a5⟩ := hrm.fl hx
    have hlx : Lies n wr xv xl xf := (hl _ (List.mem_of_getElem? hx)).below B.out
    obtain ⟨hz, hpx⟩ := hp _ (List.mem_of_getElem? hx)
    simp only at a0 a1 a2 a3 a4 a5 hz hpx
    obtain ⟨al, cl, af, cf, rfl, rfl⟩ := hlx.slices
    obtain ⟨O, hO⟩ : ∃ O, O = Obj.cells #[.string xn, .int .i64 xv.kind, .int .i64 xv.num, .string xv.text, .slice al xv.list.length cl, .slice af xv.fields.length cf] 50 := ⟨_, rfl⟩
    have hBa : ∀ d, Below w.heap.size w ((wr.alloc O).drewN d) := fun d => by
      have h : Below w.heap.size w (wr.alloc O) := B.out.alloc B.out.size _
      exact ⟨h.os, h.tape, h.output, h.size, h.block⟩
    have hBr : ∀ d, Below wr.heap.size wr ((wr.alloc O).drewN d) := fun d => by
      have h : Below wr.heap.size wr (wr.alloc O) := (Below.refl _ _).alloc (Nat.le_refl _) _
      exact ⟨h.os, h.tape, h.output, h.size, h.block⟩
    have hxp : (xs.map Fl.pair)[k]? = some (xn, xv) := by rw [List.getElem?_map, hx]; rfl
    -- what becomes of this round: a name that does not rise, one that is no text, a value, or it goes on
    obtain ⟨q1, hq1⟩ : ∃ q : Bool, q = true ↔ (∀ j q, k = j + 1 → (xs.map Fl.pair)[j]? = some q → cmpT q.1 xn < 0) := by
      by_cases h : (∀ j q, k = j + 1 → (xs.map Fl.pair)[j]? = some q → cmpT q.1 xn < 0)
      · exact ⟨true, ⟨fun _ => h, fun _ => rfl⟩⟩
      · exact ⟨false, ⟨fun e => (by cases e), fun e => absurd e h⟩⟩
    obtain ⟨q2, hq2⟩ : ∃ q, Lib.validD xn.data.toList = q := ⟨_, rfl⟩
    have htx := fun W (hW : Below w.heap.size w W) => textValid_any xn W (by omega) (hU.later hW)
    rw [hq2] at htx
    have hval : ∃ q3 : Bool, (q3 = true ↔ VOk n xv) ∧ ∀ W (hW : Below wr.heap.size wr W), Calls Tryd.prog 17 #[.agg #[.int .i64 xv.kind, .int .i64 xv.num, .string xv.text, .slice al xv.list.length cl, .slice af xv.fields.length cf]] W fun e w' => e = .returned (.bool q3) ∧ Below W.heap.size W w' := by
      by_cases h : VOk n xv
      · exact ⟨true, by simp [h], fun W hW => Valid_any n xv _ _ W (hlx.below hW) h (hU.later (B.out.trans (hW.mono B.out.size)))⟩
      · exact ⟨false, by simp [h], fun W hW => hI.out.1 xv _ _ W (hlx.below hW) hpx h (hU.later (B.out.trans (hW.mono B.out.size)))⟩
    obtain ⟨q3, hq3, hcall⟩ := hval
    have hgo : (q1 = true ∧ q2 = true ∧ q3 = true) → k + 1 ≤ J := by
      rintro ⟨rfl, rfl, rfl⟩
      rcases Nat.lt_or_ge k J with h | h
      · omega
      · obtain rfl : k = J := by omega
        refine absurd (fun p hp => ?_) hnv
        rw [hxp] at hp
        cases hp
        exact ⟨hq1.1 rfl, hq2, hq3.1 rfl⟩
    have zk : (k : Int) < (xs.length : Int) := by omega
    have hrowO : ∀ d, ((wr.alloc O).drewN d).heap[wr.heap.size]? = some O := fun d => heap_alloc_new wr O
    have hprev : (k = 0 ∧ q1 = true) ∨ ∃ j pn, k = j + 1 ∧ wr.cell? ⟨b0, j * 6, none⟩ = some (.string pn) ∧ Op.bytesLess pn.toList xn.toList = q1 := by
      by_cases h0 : k = 0
      · exact .inl ⟨h0, hq1.2 fun j q e _ => by omega⟩
      · obtain ⟨j, rfl⟩ : ∃ j, k = j + 1 := ⟨k - 1, by omega⟩
        obtain ⟨⟨pn, pv, pl, pf⟩, hpx⟩ : ∃ x, xs[j]? = some x := ⟨_, List.getElem?_eq_getElem (by omega)⟩
        have hps : (xs.map Fl.pair)[j]? = some (pn, pv) := by rw [List.getElem?_map, hpx]; rfl
        refine .inr ⟨j, pn, rfl, (hrm.fl hpx).1, ?_⟩
        cases q1 with
        | true => exact str_ge (hq1.1 rfl j _ rfl hps)
        | false =>
          refine str_no fun h => ?_
          have : (false : Bool) = true := hq1.2 fun j' q e1 e2 => by
            obtain rfl : j = j' := by omega
            rw [hps] at e2
            cases e2
            exact h
          cases this
    have H2 := (show Hid _ from And.intro hBa (And.intro hBr (And.intro hrowO (And.intro hO hgo))))
    clear hrow hl hv hU hlx hpx hx hrm hp hnv hBa hBr hrowO hxp hq1 hq2 hq3 hgo
    rcases hprev with ⟨rfl, rfl⟩ | ⟨j, pn, rfl, hpc, hsl⟩
    · go_wp2_with fail
      go_quiet (fail)
      go_wp2_with fail
      refine (htx _ (by rw [← H2.out.2.2.2.1]; exact H2.out.1 _)).mono ?_
      rintro e w1 ⟨rfl, hb1⟩
      obtain ⟨hBa, hBr, hrowO, hO, hgo⟩ := H2.out
      rw [← hO] at hb1
      have p1 := (hb1.block wr.heap.size (by simp)).trans (hrowO _)
      rw [hO] at p1
      obtain ⟨k0, k1, k2, k3, k4, k5, kf⟩ := row6 p1
      have hB1 := (hBr _).trans (hb1.mono (hBr _).size)
      have hBw1 := (hBa _).trans (hb1.mono (hBa _).size)
      have hlt1 := lt_of_heap p1
      have hc1 := hcall _ hB1
      have H3 := (show Hid _ from And.intro hBw1 hgo)
      clear htx hcall hBa hBr hrowO hO hb1 p1 hB1 hBw1 hgo
      cases q2 with
      | false =>
        go_wp2_with fail
        go_ret
        exact ⟨rfl, H3.out.1⟩
      | true =>
        go_wp2_with fail
        refine hc1.mono ?_
        rintro e w2 ⟨rfl, hb2⟩
        have H4 := (show Hid _ from hb2)
        clear hc1 hb2
        cases q3 with
        | false =>
          go_wp2_with fail
          go_ret
          exact ⟨rfl, H3.out.1.trans (H4.out.mono H3.out.1.size)⟩
        | true =>
          have hjj := H3.out.2 (by simp)
          go_wp2_with fail
          go_roundg (xs.length - (0 + 1))
          case measure => omega
          case rel => exact ⟨0 + 1, by omega, by omega, by go_num, H3.out.1.trans (H4.out.mono H3.out.1.size)⟩
    · have zj : (0 : Int) < (j : Int) + 1 := by omega
      have hb0r : b0 < wr.heap.size := lt_of_cell hpc
      have zj2 : (j : Int) < (xs.length : Int) := by omega
      cases q1 with
      | false =>
        go_wp2_with fail
        go_quiet (fail)
        go_wp2_with fail
        go_ret
        exact ⟨rfl, by rw [← H2.out.2.2.2.1]; exact H2.out.1 _⟩
      | true =>
        go_wp2_with fail
        go_quiet (fail)
        go_wp2_with fail
        refine (htx _ (by rw [← H2.out.2.2.2.1]; exact H2.out.1 _)).mono ?_
        rintro e w1 ⟨rfl, hb1⟩
        obtain ⟨hBa, hBr, hrowO, hO, hgo⟩ := H2.out
        rw [← hO] at hb1
        have p1 := (hb1.block wr.heap.size (by simp)).trans (hrowO _)
        rw [hO] at p1
        obtain ⟨k0, k1, k2, k3, k4, k5, kf⟩ := row6 p1
        have hB1 := (hBr _).trans (hb1.mono (hBr _).size)
        have hBw1 := (hBa _).trans (hb1.mono (hBa _).size)
        have hlt1 := lt_of_heap p1
        have hc1 := hcall _ hB1
        have H3 := (show Hid _ from And.intro hBw1 hgo)
        clear htx hcall hBa hBr hrowO hO hb1 p1 hB1 hBw1 hgo
        cases q2 with
        | false =>
          go_wp2_with fail
          go_ret
          exact ⟨rfl, H3.out.1⟩
        | true =>
          go_wp2_with fail
          refine hc1.mono ?_
          rintro e w2 ⟨rfl, hb2⟩
          have H4 := (show Hid _ from hb2)
          clear hc1 hb2
          cases q3 with
          | false =>
            go_wp2_with fail
            go_ret
            exact ⟨rfl, H3.out.1.trans (H4.out.mono H3.out.1.size)⟩
          | true =>
            have hjj := H3.out.2 (by simp)
            go_wp2_with fail
            go_roundg (xs.length - ((j + 1) + 1))
            case measure => omega
            case rel => exact ⟨(j + 1) + 1, by omega, by omega, by go_num, H3.out.1.trans (H4.out.mono H3.out.1.size)⟩

theorem bare_kind (a1 a2 : Option Addr) (c1 c2 : Nat) (k : Int) (w : World) : Calls Tryd.prog 26 #[.agg #[.int .i64 k, .int .i64 0, .string ⟨#[]⟩, .slice a1 0 c1, .slice a2 0 c2]] w fun e w' => e = .returned (.bool true) ∧ Below w.heap.size w w' := by
  go_enter Tryd.func26, Tryd.ntmps26
  go_wp2
  go_ret
  exact ⟨rfl, (Below.refl _ _).alloc (Nat.le_refl _) _⟩
set_option maxHeartbeats 2000000 in
theorem Valid_kind_not (a1 a2 : Option Addr) (c1 c2 : Nat) (k : Int) (hk : k < 0 ∨ 5 < k) (w : World) : Calls Tryd.prog 17 #[.agg #[.int .i64 k, .int .i64 0, .string ⟨#[]⟩, .slice a1 0 c1, .slice a2 0 c2]] w fun e w' => e = .returned (.bool false) ∧ Below w.heap.size w w' := by
  have hbare := bare_kind a1 a2 c1 c2 k (w.alloc (.cells #[.int .i64 k, .int .i64 0, .string ⟨#[]⟩, .slice a1 0 c1, .slice a2 0 c2] 28))
  have n0 : (k == 0) = false := by simp; omega
  have n1 : (k == 1) = false := by simp; omega
  have n2 : (k == 2) = false := by simp; omega
  have n3 : (k == 3) = false := by simp; omega
  have n4 : (k == 4) = false := by simp; omega
  have n5 : (k == 5) = false := by simp; omega
  clear hk
  go_enter Tryd.func17, Tryd.ntmps17
  go_wp2_with fail
  refine hbare.mono ?_
  rintro e w1 ⟨rfl, hb⟩
  have p1 := (hb.block w.heap.size (by simp)).trans (heap_alloc_new w _)
  obtain ⟨k0, k1, k2, k3, k4, kf⟩ := row5 p1
  have hB1 : Below w.heap.size w w1 := ((Below.refl _ _).alloc (Nat.le_refl _) _).trans (hb.mono (by simp))
  clear p1 hb hbare
  go_wp2
  go_ret
  exact ⟨rfl, hB1⟩
set_option maxHeartbeats 2000000 in
theorem Valid_bool_not (a1 a2 : Option Addr) (c1 c2 : Nat) (m : Int) (h0 : (m == 0) = false) (h1 : (m == 1) = false) (w : World) : Calls Tryd.prog 17 #[.agg #[.int .i64 1, .int .i64 m, .string ⟨#[]⟩, .slice a1 0 c1, .slice a2 0 c2]] w fun e w' => e = .returned (.bool false) ∧ Below w.heap.size w w' := by
  have hbare := bare_num a1 a2 c1 c2 1 m (by omega) (w.alloc (.cells #[.int .i64 1, .int .i64 m, .string ⟨#[]⟩, .slice a1 0 c1, .slice a2 0 c2] 28))
  go_enter Tryd.func17, Tryd.ntmps17
  go_wp2_with fail
  refine hbare.mono ?_
  rintro e w1 ⟨rfl, hb⟩
  have p1 := (hb.block w.heap.size (by simp)).trans (heap_alloc_new w _)
  obtain ⟨k0, k1, k2, k3, k4, kf⟩ := row5 p1
  have hB1 : Below w.heap.size w w1 := ((Below.refl _ _).alloc (Nat.le_refl _) _).trans (hb.mono (by simp))
  clear p1 hb hbare
  go_wp2
  go_ret
  exact ⟨rfl, hB1⟩
set_option maxHeartbeats 2000000 in
theorem Valid_text_not (a1 a2 : Option Addr) (c1 c2 : Nat) (t : ByteArray) (hz : t.size ≤ 1000000) (hv : Lib.validD t.data.toList = false) (w : World) (hU : U8 w) : Calls Tryd.prog 17 #[.agg #[.int .i64 3, .int .i64 0, .string t, .slice a1 0 c1, .slice a2 0 c2]] w fun e w' => e = .returned (.bool false) ∧ Below w.heap.size w w' := by
  have hbare := bare_text a1 a2 c1 c2 t (w.alloc (.cells #[.int .i64 3, .int .i64 0, .string t, .slice a1 0 c1, .slice a2 0 c2] 28))
  have htx := fun W (hW : Below w.heap.size w W) => textValid_any t W (by omega) (hU.later hW)
  rw [hv] at htx
  clear hv hU hz
  all_goals
    go_enter Tryd.func17, Tryd.ntmps17
    go_wp2_with fail
    refine hbare.mono ?_
    rintro e w1 ⟨rfl, hb⟩
    have p1 := (hb.block w.heap.size (by simp)).trans (heap_alloc_new w _)
    obtain ⟨k0, k1, k2, k3, k4, kf⟩ := row5 p1
    have hB1 : Below w.heap.size w w1 := ((Below.refl _ _).alloc (Nat.le_refl _) _).trans (hb.mono (by simp))
    clear p1 hb hbare
    go_wp2_with fail
    refine (htx _ hB1).mono ?_
    rintro e w2 ⟨rfl, hb2⟩
    go_wp2
    go_ret
    exact ⟨rfl, hB1.trans (hb2.mono hB1.size)⟩
set_option maxHeartbeats 2000000 in
theorem Valid_list_not (a2 : Option Addr) (c2 : Nat) (a : Option Addr) (n c : Nat) (w : World) (hc : ∀ W, Below w.heap.size w W → Calls Tryd.prog 28 #[.slice a n c] W fun e w' => e = .returned (.bool false) ∧ Below W.heap.size W w') : Calls Tryd.prog 17 #[.agg #[.int .i64 4, .int .i64 0, .string ⟨#[]⟩, .slice a n c, .slice a2 0 c2]] w fun e w' => e = .returned (.bool false) ∧ Below w.heap.size w w' := by
  have hbare := bare_list a2 c2 a n c (w.alloc (.cells #[.int .i64 4, .int .i64 0, .string ⟨#[]⟩, .slice a n c, .slice a2 0 c2] 28))
  all_goals
    go_enter Tryd.func17, Tryd.ntmps17
    go_wp2_with fail
    refine hbare.mono ?_
    rintro e w1 ⟨rfl, hb⟩
    have p1 := (hb.block w.heap.size (by simp)).trans (heap_alloc_new w _)
    obtain ⟨k0, k1, k2, k3, k4, kf⟩ := row5 p1
    have hB1 : Below w.heap.size w w1 := ((Below.refl _ _).alloc (Nat.le_refl _) _).trans (hb.mono (by simp))
    clear p1 hb hbare
    go_wp2_with fail
    refine (hc _ hB1).mono ?_
    rintro e w2 ⟨rfl, hb2⟩
    go_wp2
    go_ret
    exact ⟨rfl, hB1.trans (hb2.mono hB1.size)⟩
set_option maxHeartbeats 2000000 in
theorem Valid_objs_not (a2 : Option Addr) (c2 : Nat) (a : Option Addr) (n c : Nat) (w : World) (hc : ∀ W, Below w.heap.size w W → Calls Tryd.prog 29 #[.slice a n c] W fun e w' => e = .returned (.bool false) ∧ Below W.heap.size W w') : Calls Tryd.prog 17 #[.agg #[.int .i64 5, .int .i64 0, .string ⟨#[]⟩, .slice a2 0 c2, .slice a n c]] w fun e w' => e = .returned (.bool false) ∧ Below w.heap.size w w' := by
  have hbare := bare_objs a2 c2 a n c (w.alloc (.cells #[.int .i64 5, .int .i64 0, .string ⟨#[]⟩, .slice a2 0 c2, .slice a n c] 28))
  all_goals
    go_enter Tryd.func17, Tryd.ntmps17
    go_wp2_with fail
    refine hbare.mono ?_
    rintro e w1 ⟨rfl, hb⟩
    have p1 := (hb.block w.heap.size (by simp)).trans (heap_alloc_new w _)
    obtain ⟨k0, k1, k2, k3, k4, kf⟩ := row5 p1
    have hB1 : Below w.heap.size w w1 := ((Below.refl _ _).alloc (Nat.le_refl _) _).trans (hb.mono (by simp))
    clear p1 hb hbare
    go_wp2_with fail
    refine (hc _ hB1).mono ?_
    rintro e w2 ⟨rfl, hb2⟩
    go_wp2
    go_ret
    exact ⟨rfl, hB1.trans (hb2.mono hB1.size)⟩

theorem kind_out {n : Nat} {k : Int} (h : ¬ VOk n ⟨k, 0, ⟨#[]⟩, [], []⟩) : k < 0 ∨ 5 < k := by
  have hv : Lib.validD (⟨#[]⟩ : ByteArray).data.toList = true := rfl
  have hs : (⟨#[]⟩ : ByteArray).size ≤ 1000000 := by decide
  rcases Int.lt_or_le k 0 with h0 | h0
  · exact .inl h0
  · rcases Int.lt_or_le 5 k with h5 | h5
    · exact .inr h5
    · exfalso
      apply h
      obtain rfl | rfl | rfl | rfl | rfl | rfl : k = 0 ∨ k = 1 ∨ k = 2 ∨ k = 3 ∨ k = 4 ∨ k = 5 := by omega
      · cases n <;> exact .inl rfl
      · cases n <;> exact .inr (.inl (.inl rfl))
      · cases n <;> exact .inr (.inr (.inl ⟨0, rfl⟩))
      · cases n <;> exact .inr (.inr (.inr (.inl ⟨_, rfl, hs, hv⟩)))
      · cases n with
        | zero => exact .inr (.inr (.inr (.inr (.inl rfl))))
        | succ n => exact .inr (.inr (.inr (.inr (.inl ⟨[], rfl, fun x hx => by cases hx⟩))))
      · cases n with
        | zero => exact .inr (.inr (.inr (.inr (.inr rfl))))
        | succ n => exact .inr (.inr (.inr (.inr (.inr ⟨[], rfl, trivial, fun x hx => by cases hx⟩))))
theorem bool_out {n : Nat} {m : Int} (h : ¬ VOk n (boolV m)) : (m == 0) = false ∧ (m == 1) = false := by
  constructor
  · simp only [beq_eq_false_iff_ne, ne_eq]
    rintro rfl
    apply h
    cases n <;> exact .inr (.inl (.inl rfl))
  · simp only [beq_eq_false_iff_ne, ne_eq]
    rintro rfl
    apply h
    cases n <;> exact .inr (.inl (.inr rfl))
theorem int_out {n : Nat} {m : Int} (h : ¬ VOk n (intV m)) : False := by
  apply h
  cases n <;> exact .inr (.inr (.inl ⟨m, rfl⟩))
theorem text_out {n : Nat} {t : ByteArray} (h : ¬ VOk n (textV t)) (hs : t.size ≤ 1000000) : Lib.validD t.data.toList = false := by
  rcases hv : Lib.validD t.data.toList with _ | _
  · rfl
  · exfalso
    apply h
    cases n <;> exact .inr (.inr (.inr (.inl ⟨t, rfl, hs, hv⟩)))
theorem list_out {n : Nat} {ls : List V} (h : ¬ VOk (n + 1) (listV ls)) : ∃ J, J < ls.length ∧ (¬ ∀ x, ls[J]? = some x → VOk n x) ∧ ∀ i, i < J → ∀ x, ls[i]? = some x → VOk n x := by
  refine first_idx (fun i => ∀ x, ls[i]? = some x → VOk n x) _ fun hall => h (.inr (.inr (.inr (.inr (.inl ⟨ls, rfl, fun x hx => ?_⟩)))))
  obtain ⟨i, hi, e⟩ := List.getElem_of_mem hx
  exact hall i hi x (by rw [List.getElem?_eq_getElem hi, e])
theorem objs_out {n : Nat} {fl : List (ByteArray × V)} (h : ¬ VOk (n + 1) (objV fl)) (hs : ∀ p ∈ fl, p.1.size ≤ 1000000) : ∃ J, J < fl.length ∧ ¬ FGood n fl J ∧ ∀ i, i < J → FGood n fl i := by
  refine first_idx (FGood n fl) _ fun hall => h (.inr (.inr (.inr (.inr (.inr ⟨fl, rfl, ?_, fun p hp => ?_⟩)))))
  · refine rises_of_adj fl fun j a b h1 h2 => ?_
    exact (hall (j + 1) (List.getElem?_eq_some_iff.1 h2).1 b h2).1 j a rfl h1
  · obtain ⟨i, hi, e⟩ := List.getElem_of_mem hp
    have := hall i hi p (by rw [List.getElem?_eq_getElem hi, e])
    exact ⟨hs p hp, this.2⟩
theorem Valid_not : ∀ n, ValidNot n
  | 0 => by
    rintro v l f w ⟨h1, h2, rfl, rfl⟩ hp hv hU
    rcases hp with ⟨k, rfl⟩ | ⟨m, rfl⟩ | ⟨m, rfl⟩ | ⟨t, rfl, hs⟩
    · exact Valid_kind_not _ _ _ _ k (kind_out hv) w
    · exact Valid_bool_not _ _ _ _ m (bool_out hv).1 (bool_out hv).2 w
    · exact (int_out hv).elim
    · exact Valid_text_not _ _ _ _ t hs (text_out hv hs) w hU
  | n + 1 => by
    rintro v l f w hl hp hv hU
    obtain ⟨al, cl, af, cf, rfl, rfl⟩ := hl.slices
    obtain ⟨⟨es, e1, e2, e3⟩, ⟨fs, f1, f2, f3⟩⟩ := id hl
    rcases hp with ⟨k, rfl⟩ | ⟨m, rfl⟩ | ⟨m, rfl⟩ | ⟨t, rfl, hs⟩ | ⟨ls, rfl, hls⟩ | ⟨fl, rfl, hfl⟩
    · exact Valid_kind_not _ _ _ _ k (kind_out hv) w
    · exact Valid_bool_not _ _ _ _ m (bool_out hv).1 (bool_out hv).2 w
    · exact (int_out hv).elim
    · exact Valid_text_not _ _ _ _ t hs (text_out hv hs) w hU
    · obtain ⟨J, hJ, hn, hb⟩ := list_out hv
      have e1' : es.map El.v = ls := e1
      have hg : ∀ i, ls[i]? = (es[i]?).map El.v := fun i => by rw [← e1', List.getElem?_map]
      refine Valid_list_not _ _ _ _ _ w fun W hW => validList_not n (Valid_not n) J es _ W (e2.move fun c _ hc => ⟨trivial, hW.block c hc⟩) (fun e he => Lies.below hW (e3 e he)) (by rw [← e1'] at hJ; simpa using hJ) (fun e he => hls e.v (by rw [← e1']; exact List.mem_map.2 ⟨e, he, rfl⟩)) (fun i e hi he => hb i hi e.v (by rw [hg, he]; rfl)) (fun e he hok => hn fun x hx => by rw [hg, he] at hx; cases hx; exact hok) (hU.later hW)
    · obtain ⟨J, hJ, hn, hb⟩ := objs_out hv fun p hp => (hfl p hp).1
      have f1' : fs.map Fl.pair = fl := f1
      refine Valid_objs_not _ _ _ _ _ w fun W hW => validFields_not n (Valid_not n) J fs _ W (f2.move fun c _ hc => ⟨trivial, hW.block c hc⟩) (fun e he => Lies.below hW (f3 e he)) (by rw [← f1'] at hJ; simpa using hJ) (fun e he => hfl e.pair (by rw [← f1']; exact List.mem_map.2 ⟨e, he, rfl⟩)) (fun i hi => by rw [f1']; exact hb i hi) (by rw [f1']; exact hn) (hU.later hW)
end Go.Proofs.YtehjdamdlokoaaaDoor
