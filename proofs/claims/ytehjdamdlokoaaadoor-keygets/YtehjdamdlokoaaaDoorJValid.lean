/-
  package value's Valid at values with nothing beside their kind: true. Conditions: as stated.
-/
import Derived.Test.YtehjdamdlokoaaaDoorVText
import Derived.Test.YtehjdamdlokoaaaDoorVDepth
import Derived.Test.YtehjdamdlokoaaaDoorVGet
import Derived.Test.YtehjdamdlokoaaaDoorJFs
import Derived.Test.YtehjdamdlokoaaaDoorJPure
import Derived.Deep.QuietTactic
namespace Go.Proofs.YtehjdamdlokoaaaDoor
open Go.RowKit

theorem U8.later {w w' : World} (h : U8 w) (hb : Below w.heap.size w w') : U8 w' := by
  refine ⟨fun c hc => ?_, fun i hi => ⟨?_, ?_⟩⟩
  · rw [hb.cell (lt_of_cell (h.1 c hc))]; exact h.1 c hc
  · rw [hb.cell (lt_of_cell (h.2 i hi).1)]; exact (h.2 i hi).1
  · rw [hb.cell (lt_of_cell (h.2 i hi).2)]; exact (h.2 i hi).2

/-- a value with nothing beside its kind, and texts that are UTF-8. -/
def VOk : Nat → V → Prop
  | 0, v => v = nulV ∨ (v = boolV 0 ∨ v = boolV 1) ∨ (∃ m, v = intV m) ∨ (∃ t, v = textV t ∧ t.size ≤ 1000000 ∧ Lib.validD t.data.toList = true) ∨ v = listV [] ∨ v = objV []
  | n + 1, v => v = nulV ∨ (v = boolV 0 ∨ v = boolV 1) ∨ (∃ m, v = intV m) ∨ (∃ t, v = textV t ∧ t.size ≤ 1000000 ∧ Lib.validD t.data.toList = true) ∨ (∃ l, v = listV l ∧ ∀ x ∈ l, VOk n x) ∨ (∃ f, v = objV f ∧ Rises f ∧ ∀ p ∈ f, p.1.size ≤ 1000000 ∧ Lib.validD p.1.data.toList = true ∧ VOk n p.2)

def ValidAt (n : Nat) : Prop := ∀ (v : V) (l f : Value) (w : World), Lies n w v l f → VOk n v → U8 w → Calls Tryd.prog 17 #[.agg #[.int .i64 v.kind, .int .i64 v.num, .string v.text, l, f]] w fun e w' => e = .returned (.bool true) ∧ Below w.heap.size w w'

set_option maxHeartbeats 2000000 in
theorem validList_any (n : Nat) (ih : ValidAt n) (xs : List El) (sl : Value) (w : World) (hrow : RowAt (fun _ => True) w 28 5 sl xs.length (encEs xs)) (hl : ∀ e ∈ xs, Lies n w e.v e.l e.f) (hv : ∀ e ∈ xs, VOk n e.v) (hU : U8 w) :
    Calls Tryd.prog 28 #[sl] w fun e w' => e = .returned (.bool true) ∧ Below w.heap.size w w' := by
  obtain ⟨aa, ca, rfl⟩ := hrow.slice
  have na := hrow.2.1
  have HH := (show Hid _ from And.intro hrow (And.intro hl (And.intro hv hU)))
  have hI := (show Hid _ from And.intro ih ih)
  clear hrow hl hv ih hU
  go_enter Tryd.func28, Tryd.ntmps28
  go_wp2_with fail
  go_loopg [4, 7] xs.length (fun gg _ i wr => ∃ k : Nat, k ≤ xs.length ∧ xs.length - k ≤ gg ∧ i = .int .i64 k ∧ Aside (Below w.heap.size w wr))
  case atStart => exact ⟨0, Nat.zero_le _, by omega, rfl, Below.refl _ _⟩
  case round =>
    obtain ⟨k, hk, hgg, rfl, B⟩ := hrel
    by_cases hlt : k < xs.length
    · obtain ⟨hrow, hl, hv, hU⟩ := HH.out
      obtain ⟨b0, c', e1, hb0, _, hc1, hc2, _⟩ := hrow.cells (by omega)
      simp only [Value.slice.injEq, true_and] at e1
      obtain ⟨rfl, rfl⟩ := e1
      obtain ⟨⟨xv, xl, xf⟩, hx⟩ : ∃ x, xs[k]? = some x := ⟨_, List.getElem?_eq_getElem hlt⟩
      obtain ⟨a0, a1, a2, a3, a4⟩ := (hrow.move fun c _ hl => ⟨trivial, B.out.block c hl⟩).el hx
      have hlx : Lies n wr xv xl xf := (hl _ (List.mem_of_getElem? hx)).below B.out
      have hvx : VOk n xv := hv _ (List.mem_of_getElem? hx)
      simp only at a0 a1 a2 a3 a4
      obtain ⟨al, cl, af, cf, rfl, rfl⟩ := hlx.slices
      obtain ⟨O, hO⟩ : ∃ O, O = Obj.cells #[.int .i64 xv.kind, .int .i64 xv.num, .string xv.text, .slice al xv.list.length cl, .slice af xv.fields.length cf] 28 := ⟨_, rfl⟩
      have hBa : Below wr.heap.size wr (wr.alloc O) := (Below.refl _ _).alloc (Nat.le_refl _) _
      have hBw := B.out.trans (hBa.mono B.out.size)
      have hcall := hI.out.1 xv _ _ _ (hlx.below hBa) hvx (hU.later hBw)
      rw [hO] at hcall
      have zk : (k : Int) < (xs.length : Int) := by omega
      have H2 := (show Hid _ from And.intro hBw hO)
      clear hrow hl hv hU hlx hvx hBa hBw hO hx
      go_wp2_with fail
      refine hcall.mono ?_
      rintro e w2 ⟨rfl, hb2⟩
      clear hcall
      go_wp2_with fail
      go_roundg (xs.length - (k + 1))
      case measure => omega
      case rel =>
        obtain ⟨hBw, hO⟩ := H2.out
        rw [← hO] at hb2
        exact ⟨k + 1, by omega, by omega, by go_num, hBw.trans (hb2.mono hBw.size)⟩
    · have zk : ¬ (k : Int) < (xs.length : Int) := by omega
      go_wp2_with fail
      go_ret
      exact ⟨rfl, B.out⟩

theorem str_ge {p q : ByteArray} (h : cmpT p q < 0) : Op.bytesLess p.toList q.toList = true := by
  rw [bytesLess_eq]
  exact decide_eq_true h

set_option maxHeartbeats 4000000 in
theorem validFields_any (n : Nat) (ih : ValidAt n) (xs : List Fl) (sl : Value) (w : World) (hrow : RowAt (fun _ => True) w 50 6 sl xs.length (encFs xs)) (hl : ∀ e ∈ xs, Lies n w e.v e.l e.f) (hv : ∀ e ∈ xs, e.name.size ≤ 1000000 ∧ Lib.validD e.name.data.toList = true ∧ VOk n e.v) (hri : Rises (xs.map Fl.pair)) (hU : U8 w) :
    Calls Tryd.prog 29 #[sl] w fun e w' => e = .returned (.bool true) ∧ Below w.heap.size w w' := by
  obtain ⟨aa, ca, rfl⟩ := hrow.slice
  have na := hrow.2.1
  have HH := (show Hid _ from And.intro hrow (And.intro hl (And.intro hv (And.intro hU hri))))
  have hI := (show Hid _ from And.intro ih ih)
  clear hrow hl hv ih hU hri
  go_enter Tryd.func29, Tryd.ntmps29
  go_wp2_with fail
  go_loopg [3, 4, 7] xs.length (fun gg _ _ i wr => ∃ k : Nat, k ≤ xs.length ∧ xs.length - k ≤ gg ∧ i = .int .i64 k ∧ Aside (Below w.heap.size w wr))
  case atStart => exact ⟨0, Nat.zero_le _, by omega, rfl, Below.refl _ _⟩
  case round =>
    obtain ⟨k, hk, hgg, rfl, B⟩ := hrel
    by_cases hlt : k < xs.length
    · obtain ⟨hrow, hl, hv, hU, hri⟩ := HH.out
      obtain ⟨b0, c', e1, hb0, _, hc1, hc2, _⟩ := hrow.cells (by omega)
      simp only [Value.slice.injEq, true_and] at e1
      obtain ⟨rfl, rfl⟩ := e1
      obtain ⟨⟨xn, xv, xl, xf⟩, hx⟩ : ∃ x, xs[k]? = some x := ⟨_, List.getElem?_eq_getElem hlt⟩
      have hrm := hrow.move fun c _ hl => ⟨trivial, B.out.block c hl⟩
      obtain ⟨a0, a1, a2, a3, a4, a5⟩ := hrm.fl hx
      have hlx : Lies n wr xv xl xf := (hl _ (List.mem_of_getElem? hx)).below B.out
      obtain ⟨hz, hvn, hvx⟩ := hv _ (List.mem_of_getElem? hx)
      simp only at a0 a1 a2 a3 a4 a5 hz hvn hvx
      obtain ⟨al, cl, af, cf, rfl, rfl⟩ := hlx.slices
      obtain ⟨O, hO⟩ : ∃ O, O = Obj.cells #[.string xn, .int .i64 xv.kind, .int .i64 xv.num, .string xv.text, .slice al xv.list.length cl, .slice af xv.fields.length cf] 50 := ⟨_, rfl⟩
      have hBa : ∀ d, Below w.heap.size w ((wr.alloc O).drewN d) := fun d => by
        have h : Below w.heap.size w (wr.alloc O) := B.out.alloc B.out.size _
        exact ⟨h.os, h.tape, h.output, h.size, h.block⟩
      have hBr : ∀ d, Below wr.heap.size wr ((wr.alloc O).drewN d) := fun d => by
        have h : Below wr.heap.size wr (wr.alloc O) := (Below.refl _ _).alloc (Nat.le_refl _) _
        exact ⟨h.os, h.tape, h.output, h.size, h.block⟩
      have htx := fun W (hW : Below w.heap.size w W) => textValid_any xn W (by omega) (hU.later hW)
      rw [hvn] at htx
      have hcall := fun W (hW : Below wr.heap.size wr W) => hI.out.1 xv _ _ W (hlx.below hW) hvx (hU.later (B.out.trans (hW.mono B.out.size)))
      have zk : (k : Int) < (xs.length : Int) := by omega
      have hrowO : ∀ d, ((wr.alloc O).drewN d).heap[wr.heap.size]? = some O := fun d => heap_alloc_new wr O
      have hprev : k = 0 ∨ ∃ j pn, k = j + 1 ∧ wr.cell? ⟨b0, j * 6, none⟩ = some (.string pn) ∧ cmpT pn xn < 0 := by
        by_cases h0 : k = 0
        · exact .inl h0
        · obtain ⟨j, rfl⟩ : ∃ j, k = j + 1 := ⟨k - 1, by omega⟩
          obtain ⟨⟨pn, pv, pl, pf⟩, hpx⟩ : ∃ x, xs[j]? = some x := ⟨_, List.getElem?_eq_getElem (by omega)⟩
          refine .inr ⟨j, pn, rfl, (hrm.fl hpx).1, ?_⟩
          have hps : (xs.map Fl.pair)[j]? = some (pn, pv) := by rw [List.getElem?_map, hpx]; rfl
          have hps1 : (xs.map Fl.pair)[j + 1]? = some (xn, xv) := by rw [List.getElem?_map, hx]; rfl
          have hadj : ∀ (l : List (ByteArray × V)) (j : Nat) (a b : ByteArray × V), Rises l → l[j]? = some a → l[j + 1]? = some b → cmpT a.1 b.1 < 0 := by
            intro l
            induction l with
            | nil => intro j a b _ h; simp at h
            | cons y l ihl =>
              intro j a b hr h1 h2
              cases j with
              | zero =>
                simp at h1 h2
                subst h1
                exact hr.all b (List.mem_of_getElem? h2)
              | succ j => exact ihl j a b hr.tail (by simpa using h1) (by simpa using h2)
          exact hadj _ j _ _ hri hps hps1
      have H2 := (show Hid _ from And.intro hBa (And.intro hBr (And.intro hrowO hO)))
      clear hrow hl hv hU hlx hvx hx hrm hri hBa hBr hrowO
      rcases hprev with rfl | ⟨j, pn, rfl, hpc, hlt0⟩
      · go_wp2_with fail
        go_quiet (fail)
        go_wp2_with fail
        refine (htx _ (by rw [← H2.out.2.2.2]; exact H2.out.1 _)).mono ?_
        rintro e w1 ⟨rfl, hb1⟩
        obtain ⟨hBa, hBr, hrowO, hO⟩ := H2.out
        rw [← hO] at hb1
        have p1 := (hb1.block wr.heap.size (by simp)).trans (hrowO _)
        rw [hO] at p1
        obtain ⟨k0, k1, k2, k3, k4, k5, kf⟩ := row6 p1
        have hB1 := (hBr _).trans (hb1.mono (hBr _).size)
        have hBw1 := (hBa _).trans (hb1.mono (hBa _).size)
        have hlt1 := lt_of_heap p1
        have hc1 := hcall _ hB1
        have H3 := (show Hid _ from And.intro hBw1 hBw1)
        clear htx hcall hBa hBr hrowO hO hb1 p1 hB1 hBw1
        go_wp2_with fail
        refine hc1.mono ?_
        rintro e w2 ⟨rfl, hb2⟩
        clear hc1
        go_wp2_with fail
        go_roundg (xs.length - (0 + 1))
        case measure => omega
        case rel => exact ⟨0 + 1, by omega, by omega, by go_num, H3.out.1.trans (hb2.mono H3.out.1.size)⟩
      · have zj : (0 : Int) < (j : Int) + 1 := by omega
        have hsl := str_ge hlt0
        have hb0r : b0 < wr.heap.size := lt_of_cell hpc
        have zj2 : (j : Int) < (xs.length : Int) := by omega
        clear hlt0
        go_wp2_with fail
        go_quiet (fail)
        go_wp2_with fail
        refine (htx _ (by rw [← H2.out.2.2.2]; exact H2.out.1 _)).mono ?_
        rintro e w1 ⟨rfl, hb1⟩
        obtain ⟨hBa, hBr, hrowO, hO⟩ := H2.out
        rw [← hO] at hb1
        have p1 := (hb1.block wr.heap.size (by simp)).trans (hrowO _)
        rw [hO] at p1
        obtain ⟨k0, k1, k2, k3, k4, k5, kf⟩ := row6 p1
        have hB1 := (hBr _).trans (hb1.mono (hBr _).size)
        have hBw1 := (hBa _).trans (hb1.mono (hBa _).size)
        have hlt1 := lt_of_heap p1
        have hc1 := hcall _ hB1
        have H3 := (show Hid _ from And.intro hBw1 hBw1)
        clear htx hcall hBa hBr hrowO hO hb1 p1 hB1 hBw1
        go_wp2_with fail
        refine hc1.mono ?_
        rintro e w2 ⟨rfl, hb2⟩
        clear hc1
        go_wp2_with fail
        go_roundg (xs.length - ((j + 1) + 1))
        case measure => omega
        case rel => exact ⟨(j + 1) + 1, by omega, by omega, by go_num, H3.out.1.trans (hb2.mono H3.out.1.size)⟩
    · have zk : ¬ (k : Int) < (xs.length : Int) := by omega
      go_wp2_with fail
      go_ret
      exact ⟨rfl, B.out⟩

theorem bare_num (a1 a2 : Option Addr) (c1 c2 : Nat) (k m : Int) (hk : k = 0 ∧ m = 0 ∨ k = 1 ∨ k = 2) (w : World) : Calls Tryd.prog 26 #[.agg #[.int .i64 k, .int .i64 m, .string ⟨#[]⟩, .slice a1 0 c1, .slice a2 0 c2]] w fun e w' => e = .returned (.bool true) ∧ Below w.heap.size w w' := by
  by_cases h : m = 0
  · subst h
    rcases hk with ⟨rfl, _⟩ | rfl | rfl
    all_goals
      go_enter Tryd.func26, Tryd.ntmps26
      go_wp2
      go_ret
      exact ⟨rfl, (Below.refl _ _).alloc (Nat.le_refl _) _⟩
  · have h' : (m == 0) = false := by simpa using h
    rcases hk with ⟨_, e⟩ | rfl | rfl
    · exact absurd e h
    all_goals
      go_enter Tryd.func26, Tryd.ntmps26
      go_wp2
      go_ret
      exact ⟨rfl, (Below.refl _ _).alloc (Nat.le_refl _) _⟩
theorem bare_text (a1 a2 : Option Addr) (c1 c2 : Nat) (t : ByteArray) (w : World) : Calls Tryd.prog 26 #[.agg #[.int .i64 3, .int .i64 0, .string t, .slice a1 0 c1, .slice a2 0 c2]] w fun e w' => e = .returned (.bool true) ∧ Below w.heap.size w w' := by
  go_enter Tryd.func26, Tryd.ntmps26
  go_wp2
  all_goals
    go_ret
    exact ⟨rfl, (Below.refl _ _).alloc (Nat.le_refl _) _⟩
theorem bare_list (a2 : Option Addr) (c2 : Nat) (a : Option Addr) (n c : Nat) (w : World) : Calls Tryd.prog 26 #[.agg #[.int .i64 4, .int .i64 0, .string ⟨#[]⟩, .slice a n c, .slice a2 0 c2]] w fun e w' => e = .returned (.bool true) ∧ Below w.heap.size w w' := by
  obtain ⟨q, hq⟩ : ∃ q, ((n : Int) == 0) = q := ⟨_, rfl⟩
  cases q
  all_goals
    go_enter Tryd.func26, Tryd.ntmps26
    go_wp2
    go_ret
    exact ⟨rfl, (Below.refl _ _).alloc (Nat.le_refl _) _⟩
theorem bare_objs (a2 : Option Addr) (c2 : Nat) (a : Option Addr) (n c : Nat) (w : World) : Calls Tryd.prog 26 #[.agg #[.int .i64 5, .int .i64 0, .string ⟨#[]⟩, .slice a2 0 c2, .slice a n c]] w fun e w' => e = .returned (.bool true) ∧ Below w.heap.size w w' := by
  obtain ⟨q, hq⟩ : ∃ q, ((n : Int) == 0) = q := ⟨_, rfl⟩
  cases q
  all_goals
    go_enter Tryd.func26, Tryd.ntmps26
    go_wp2
    go_ret
    exact ⟨rfl, (Below.refl _ _).alloc (Nat.le_refl _) _⟩

set_option maxHeartbeats 2000000 in
theorem Valid_num (a1 a2 : Option Addr) (c1 c2 : Nat) (k m : Int) (hk : k = 0 ∧ m = 0 ∨ k = 1 ∧ (m = 0 ∨ m = 1) ∨ k = 2) (w : World) : Calls Tryd.prog 17 #[.agg #[.int .i64 k, .int .i64 m, .string ⟨#[]⟩, .slice a1 0 c1, .slice a2 0 c2]] w fun e w' => e = .returned (.bool true) ∧ Below w.heap.size w w' := by
  have hbare := bare_num a1 a2 c1 c2 k m (by omega) (w.alloc (.cells #[.int .i64 k, .int .i64 m, .string ⟨#[]⟩, .slice a1 0 c1, .slice a2 0 c2] 28))
  rcases hk with ⟨rfl, rfl⟩ | ⟨rfl, rfl | rfl⟩ | rfl
  all_goals
    go_enter Tryd.func17, Tryd.ntmps17
    go_wp2_with fail
    refine hbare.mono ?_
    rintro e w1 ⟨rfl, hb⟩
    have p1 := (hb.block w.heap.size (by simp)).trans (heap_alloc_new w _)
    obtain ⟨k0, k1, k2, k3, k4, kf⟩ := row5 p1
    have hB1 : Below w.heap.size w w1 := ((Below.refl _ _).alloc (Nat.le_refl _) _).trans (hb.mono (by simp))
    clear p1 hb hbare
    go_wp2
    go_ret
    exact ⟨rfl, hB1⟩
set_option maxHeartbeats 2000000 in
theorem Valid_text (a1 a2 : Option Addr) (c1 c2 : Nat) (t : ByteArray) (hz : t.size ≤ 1000000) (hv : Lib.validD t.data.toList = true) (w : World) (hU : U8 w) : Calls Tryd.prog 17 #[.agg #[.int .i64 3, .int .i64 0, .string t, .slice a1 0 c1, .slice a2 0 c2]] w fun e w' => e = .returned (.bool true) ∧ Below w.heap.size w w' := by
  have hbare := bare_text a1 a2 c1 c2 t (w.alloc (.cells #[.int .i64 3, .int .i64 0, .string t, .slice a1 0 c1, .slice a2 0 c2] 28))
  have htx := fun W (hW : Below w.heap.size w W) => textValid_any t W (by omega) (hU.later hW)
  rw [hv] at htx
  clear hv hU hz
  all_goals
    go_enter Tryd.func17, Tryd.ntmps17
    go_wp2_with fail
    refine hbare.mono ?_
    rintro e w1 ⟨rfl, hb⟩
    have p1 := (hb.block w.heap.size (by simp)).trans (heap_alloc_new w _)
    obtain ⟨k0, k1, k2, k3, k4, kf⟩ := row5 p1
    have hB1 : Below w.heap.size w w1 := ((Below.refl _ _).alloc (Nat.le_refl _) _).trans (hb.mono (by simp))
    clear p1 hb hbare
    go_wp2_with fail
    refine (htx _ hB1).mono ?_
    rintro e w2 ⟨rfl, hb2⟩
    go_wp2
    go_ret
    exact ⟨rfl, hB1.trans (hb2.mono hB1.size)⟩
set_option maxHeartbeats 2000000 in
theorem Valid_list (a2 : Option Addr) (c2 : Nat) (a : Option Addr) (n c : Nat) (w : World) (hc : ∀ W, Below w.heap.size w W → Calls Tryd.prog 28 #[.slice a n c] W fun e w' => e = .returned (.bool true) ∧ Below W.heap.size W w') : Calls Tryd.prog 17 #[.agg #[.int .i64 4, .int .i64 0, .string ⟨#[]⟩, .slice a n c, .slice a2 0 c2]] w fun e w' => e = .returned (.bool true) ∧ Below w.heap.size w w' := by
  have hbare := bare_list a2 c2 a n c (w.alloc (.cells #[.int .i64 4, .int .i64 0, .string ⟨#[]⟩, .slice a n c, .slice a2 0 c2] 28))
  all_goals
    go_enter Tryd.func17, Tryd.ntmps17
    go_wp2_with fail
    refine hbare.mono ?_
    rintro e w1 ⟨rfl, hb⟩
    have p1 := (hb.block w.heap.size (by simp)).trans (heap_alloc_new w _)
    obtain ⟨k0, k1, k2, k3, k4, kf⟩ := row5 p1
    have hB1 : Below w.heap.size w w1 := ((Below.refl _ _).alloc (Nat.le_refl _) _).trans (hb.mono (by simp))
    clear p1 hb hbare
    go_wp2_with fail
    refine (hc _ hB1).mono ?_
    rintro e w2 ⟨rfl, hb2⟩
    go_wp2
    go_ret
    exact ⟨rfl, hB1.trans (hb2.mono hB1.size)⟩
set_option maxHeartbeats 2000000 in
theorem Valid_objs (a2 : Option Addr) (c2 : Nat) (a : Option Addr) (n c : Nat) (w : World) (hc : ∀ W, Below w.heap.size w W → Calls Tryd.prog 29 #[.slice a n c] W fun e w' => e = .returned (.bool true) ∧ Below W.heap.size W w') : Calls Tryd.prog 17 #[.agg #[.int .i64 5, .int .i64 0, .string ⟨#[]⟩, .slice a2 0 c2, .slice a n c]] w fun e w' => e = .returned (.bool true) ∧ Below w.heap.size w w' := by
  have hbare := bare_objs a2 c2 a n c (w.alloc (.cells #[.int .i64 5, .int .i64 0, .string ⟨#[]⟩, .slice a2 0 c2, .slice a n c] 28))
  all_goals
    go_enter Tryd.func17, Tryd.ntmps17
    go_wp2_with fail
    refine hbare.mono ?_
    rintro e w1 ⟨rfl, hb⟩
    have p1 := (hb.block w.heap.size (by simp)).trans (heap_alloc_new w _)
    obtain ⟨k0, k1, k2, k3, k4, kf⟩ := row5 p1
    have hB1 : Below w.heap.size w w1 := ((Below.refl _ _).alloc (Nat.le_refl _) _).trans (hb.mono (by simp))
    clear p1 hb hbare
    go_wp2_with fail
    refine (hc _ hB1).mono ?_
    rintro e w2 ⟨rfl, hb2⟩
    go_wp2
    go_ret
    exact ⟨rfl, hB1.trans (hb2.mono hB1.size)⟩

theorem validList_none (w : World) : Calls Tryd.prog 28 #[.slice none 0 0] w fun e w' => e = .returned (.bool true) ∧ Below w.heap.size w w' := by
  go_enter Tryd.func28, Tryd.ntmps28
  go_wp2_with fail
  refine wp_loop_rounds 1 ?_
  rw [rounds_succ]
  go_wp2_with fail
  go_ret
  exact ⟨rfl, Below.refl _ _⟩
theorem validFields_none (w : World) : Calls Tryd.prog 29 #[.slice none 0 0] w fun e w' => e = .returned (.bool true) ∧ Below w.heap.size w w' := by
  go_enter Tryd.func29, Tryd.ntmps29
  go_wp2_with fail
  refine wp_loop_rounds 1 ?_
  rw [rounds_succ]
  go_wp2_with fail
  go_ret
  exact ⟨rfl, Below.refl _ _⟩
theorem Valid_any : ∀ n, ValidAt n
  | 0 => by
    rintro v l f w ⟨h1, h2, rfl, rfl⟩ hv hU
    rcases hv with rfl | (rfl | rfl) | ⟨m, rfl⟩ | ⟨t, rfl, hz, ht⟩ | rfl | rfl
    · exact Valid_num _ _ _ _ 0 0 (.inl ⟨rfl, rfl⟩) w
    · exact Valid_num _ _ _ _ 1 0 (.inr (.inl ⟨rfl, .inl rfl⟩)) w
    · exact Valid_num _ _ _ _ 1 1 (.inr (.inl ⟨rfl, .inr rfl⟩)) w
    · exact Valid_num _ _ _ _ 2 m (.inr (.inr rfl)) w
    · exact Valid_text _ _ _ _ t hz ht w hU
    · exact Valid_list _ _ _ _ _ w fun W hW => validList_none W
    · exact Valid_objs _ _ _ _ _ w fun W hW => validFields_none W
  | n + 1 => by
    rintro v l f w hl hv hU
    obtain ⟨al, cl, af, cf, rfl, rfl⟩ := hl.slices
    obtain ⟨⟨es, e1, e2, e3⟩, ⟨fs, f1, f2, f3⟩⟩ := id hl
    rcases hv with rfl | (rfl | rfl) | ⟨m, rfl⟩ | ⟨t, rfl, hz, ht⟩ | ⟨ls, rfl, hls⟩ | ⟨fl, rfl, hri, hfl⟩
    · exact Valid_num _ _ _ _ 0 0 (.inl ⟨rfl, rfl⟩) w
    · exact Valid_num _ _ _ _ 1 0 (.inr (.inl ⟨rfl, .inl rfl⟩)) w
    · exact Valid_num _ _ _ _ 1 1 (.inr (.inl ⟨rfl, .inr rfl⟩)) w
    · exact Valid_num _ _ _ _ 2 m (.inr (.inr rfl)) w
    · exact Valid_text _ _ _ _ t hz ht w hU
    · refine Valid_list _ _ _ _ _ w fun W hW => validList_any n (Valid_any n) es _ W (e2.move fun c _ hc => ⟨trivial, hW.block c hc⟩) (fun e he => Lies.below hW (e3 e he)) (fun e he => hls e.v (by
        have : e.v ∈ es.map El.v := List.mem_map.2 ⟨e, he, rfl⟩
        rw [e1] at this
        exact this)) (hU.later hW)
    · refine Valid_objs _ _ _ _ _ w fun W hW => validFields_any n (Valid_any n) fs _ W (f2.move fun c _ hc => ⟨trivial, hW.block c hc⟩) (fun e he => Lies.below hW (f3 e he)) (fun e he => hfl e.pair (by
        have : e.pair ∈ fs.map Fl.pair := List.mem_map.2 ⟨e, he, rfl⟩
        rw [f1] at this
        exact this)) (by rw [f1]; exact hri) (hU.later hW)
end Go.Proofs.YtehjdamdlokoaaaDoor
