/-
  package value's Valid at values with nothing beside their kind: true. Conditions: as stated.
  The program's reader of JSON: texts in quotes. Conditions: as stated (texts of at most 4096 bytes).
  The program's reader of JSON: numbers. Conditions: as stated (texts of at most 4096 bytes).
-/
import Derived.Test.YtnkoblhdbccbeaaGreatDoorU11
import Derived.Test.YtnkoblhdbccbeaaGreatDoorU8
import Derived.Test.YtnkoblhdbccbeaaGreatDoorU2
import Derived.Deep.QuietTactic
import Derived.Test.YtnkoblhdbccbeaaGreatDoorU9
namespace Go.Proofs.YtnkoblhdbccbeaaGreatDoor
open Go.RowKit

theorem U8.later {w w' : World} (h : U8 w) (hb : Below w.heap.size w w') : U8 w' := by
  refine ⟨fun c hc => ?_, fun i hi => ⟨?_, ?_⟩⟩
  · rw [hb.cell (lt_of_cell (h.1 c hc))]; exact h.1 c hc
  · rw [hb.cell (lt_of_cell (h.2 i hi).1)]; exact (h.2 i hi).1
  · rw [hb.cell (lt_of_cell (h.2 i hi).2)]; exact (h.2 i hi).2

/-- a value with nothing beside its kind, and texts that are UTF-8. -/
def VOk : Nat → V → Prop
  | 0, v => v = nulV ∨ (v = boolV 0 ∨ v = boolV 1) ∨ (∃ m, v = intV m) ∨ (∃ t, v = textV t ∧ t.size ≤ 1000000 ∧ Lib.validD t.data.toList = true) ∨ v = listV [] ∨ v = objV []
  | n + 1, v => v = nulV ∨ (v = boolV 0 ∨ v = boolV 1) ∨ (∃ m, v = intV m) ∨ (∃ t, v = textV t ∧ t.size ≤ 1000000 ∧ Lib.validD t.data.toList = true) ∨ (∃ l, v = listV l ∧ ∀ x ∈ l, VOk n x) ∨ (∃ f, v = objV f ∧ Rises f ∧ ∀ p ∈ f, p.1.size ≤ 1000000 ∧ Lib.validD p.1.data.toList = true ∧ VOk n p.2)

def ValidAt (n : Nat) : Prop := ∀ (v : V) (l f : Value) (w : World), Lies n w v l f → VOk n v → U8 w → Calls Tryz.prog 20 #[.agg #[.int .i64 v.kind, .int .i64 v.num, .string v.text, l, f]] w fun e w' => e = .returned (.bool true) ∧ Below w.heap.size w w'

set_option maxHeartbeats 2000000 in
theorem validList_any (n : Nat) (ih : ValidAt n) (xs : List El) (sl : Value) (w : World) (hrow : RowAt (fun _ => True) w 31 5 sl xs.length (encEs xs)) (hl : ∀ e ∈ xs, Lies n w e.v e.l e.f) (hv : ∀ e ∈ xs, VOk n e.v) (hU : U8 w) :
    Calls Tryz.prog 38 #[sl] w fun e w' => e = .returned (.bool true) ∧ Below w.heap.size w w' := by
  obtain ⟨aa, ca, rfl⟩ := hrow.slice
  have na := hrow.2.1
  have HH := (show Hid _ from And.intro hrow (And.intro hl (And.intro hv hU)))
  have hI := (show Hid _ from And.intro ih ih)
  clear hrow hl hv ih hU
  go_enter Tryz.func38, Tryz.ntmps38
  go_wp2_with fail
  go_loopg [4, 7] xs.length (fun gg _ i wr => ∃ k : Nat, k ≤ xs.length ∧ xs.length - k ≤ gg ∧ i = .int .i64 k ∧ Aside (Below w.heap.size w wr))
  case atStart => exact ⟨0, Nat.zero_le _, by omega, rfl, Below.refl _ _⟩
  case round =>
    obtain ⟨k, hk, hgg, rfl, B⟩ := hrel
    by_cases hlt : k < xs.length
    · obtain ⟨hrow, hl, hv, hU⟩ := HH.out
      obtain ⟨b0, c', e1, hb0, _, hc1, hc2, _⟩ := hrow.cells (by omega)
      simp only [Value.slice.injEq, true_and] at e1
      obtain ⟨rfl, rfl⟩ := e1
      obtain ⟨⟨xv, xl, xf⟩, hx⟩ : ∃ x, xs[k]? = some x := ⟨_, List.getElem?_eq_getElem hlt⟩
      obtain ⟨a0, a1, a2, a3, a4⟩ := (hrow.move fun c _ hl => ⟨trivial, B.out.block c hl⟩).el hx
      have hlx : Lies n wr xv xl xf := (hl _ (List.mem_of_getElem? hx)).below B.out
      have hvx : VOk n xv := hv _ (List.mem_of_getElem? hx)
      simp only at a0 a1 a2 a3 a4
      obtain ⟨al, cl, af, cf, rfl, rfl⟩ := hlx.slices
      obtain ⟨O, hO⟩ : ∃ O, O = Obj.cells #[.int .i64 xv.kind, .int .i64 xv.num, .string xv.text, .slice al xv.list.length cl, .slice af xv.fields.length cf] 31 := ⟨_, rfl⟩
      have hBa : Below wr.heap.size wr (wr.alloc O) := (Below.refl _ _).alloc (Nat.le_refl _) _
      have hBw := B.out.trans (hBa.mono B.out.size)
      have hcall := hI.out.1 xv _ _ _ (hlx.below hBa) hvx (hU.later hBw)
      rw [hO] at hcall
      have zk : (k : Int) < (xs.length : Int) := by omega
      have H2 := (show Hid _ from And.intro hBw hO)
      clear hrow hl hv hU hlx hvx hBa hBw hO hx
      go_wp2_with fail
      refine hcall.mono ?_
      rintro e w2 ⟨rfl, hb2⟩
      clear hcall
      go_wp2_with fail
      go_roundg (xs.length - (k + 1))
      case measure => omega
      case rel =>
        obtain ⟨hBw, hO⟩ := H2.out
        rw [← hO] at hb2
        exact ⟨k + 1, by omega, by omega, by go_num, hBw.trans (hb2.mono hBw.size)⟩
    · have zk : ¬ (k : Int) < (xs.length : Int) := by omega
      go_wp2_with fail
      go_ret
      exact ⟨rfl, B.out⟩

theorem str_ge {p q : ByteArray} (h : cmpT p q < 0) : Op.bytesLess p.toList q.toList = true := by
  rw [bytesLess_eq]
  exact decide_eq_true h

set_option maxHeartbeats 4000000 in
theorem validFields_any (n : Nat) (ih : ValidAt n) (xs : List Fl) (sl : Value) (w : World) (hrow : RowAt (fun _ => True) w 52 6 sl xs.length (encFs xs)) (hl : ∀ e ∈ xs, Lies n w e.v e.l e.f) (hv : ∀ e ∈ xs, e.name.size ≤ 1000000 ∧ Lib.validD e.name.data.toList = true ∧ VOk n e.v) (hri : Rises (xs.map Fl.pair)) (hU : U8 w) :
    Calls Tryz.prog 39 #[sl] w fun e w' => e = .returned (.bool true) ∧ Below w.heap.size w w' := by
  obtain ⟨aa, ca, rfl⟩ := hrow.slice
  have na := hrow.2.1
  have HH := (show Hid _ from And.intro hrow (And.intro hl (And.intro hv (And.intro hU hri))))
  have hI := (show Hid _ from And.intro ih ih)
  clear hrow hl hv ih hU hri
  go_enter Tryz.func39, Tryz.ntmps39
  go_wp2_with fail
  go_loopg [3, 4, 7] xs.length (fun gg _ _ i wr => ∃ k : Nat, k ≤ xs.length ∧ xs.length - k ≤ gg ∧ i = .int .i64 k ∧ Aside (Below w.heap.size w wr))
  case atStart => exact ⟨0, Nat.zero_le _, by omega, rfl, Below.refl _ _⟩
  case round =>
    obtain ⟨k, hk, hgg, rfl, B⟩ := hrel
    by_cases hlt : k < xs.length
    · obtain ⟨hrow, hl, hv, hU, hri⟩ := HH.out
      obtain ⟨b0, c', e1, hb0, _, hc1, hc2, _⟩ := hrow.cells (by omega)
      simp only [Value.slice.injEq, true_and] at e1
      obtain ⟨rfl, rfl⟩ := e1
      obtain ⟨⟨xn, xv, xl, xf⟩, hx⟩ : ∃ x, xs[k]? = some x := ⟨_, List.getElem?_eq_getElem hlt⟩
      have hrm := hrow.move fun c _ hl => ⟨trivial, B.out.block c hl⟩
      obtain ⟨a0, a1, a2, a3, a4, a5⟩ := hrm.fl hx
      have hlx : Lies n wr xv xl xf := (hl _ (List.mem_of_getElem? hx)).below B.out
      obtain ⟨hz, hvn, hvx⟩ := hv _ (List.mem_of_getElem? hx)
      simp only at a0 a1 a2 a3 a4 a5 hz hvn hvx
      obtain ⟨al, cl, af, cf, rfl, rfl⟩ := hlx.slices
      obtain ⟨O, hO⟩ : ∃ O, O = Obj.cells #[.string xn, .int .i64 xv.kind, .int .i64 xv.num, .string xv.text, .slice al xv.list.length cl, .slice af xv.fields.length cf] 52 := ⟨_, rfl⟩
      have hBa : ∀ d, Below w.heap.size w ((wr.alloc O).drewN d) := fun d => by
        have h : Below w.heap.size w (wr.alloc O) := B.out.alloc B.out.size _
        exact ⟨h.os, h.tape, h.output, h.size, h.block⟩
      have hBr : ∀ d, Below wr.heap.size wr ((wr.alloc O).drewN d) := fun d => by
        have h : Below wr.heap.size wr (wr.alloc O) := (Below.refl _ _).alloc (Nat.le_refl _) _
        exact ⟨h.os, h.tape, h.output, h.size, h.block⟩
      have htx := fun W (hW : Below w.heap.size w W) => textValid_any xn W (by omega) (hU.later hW)
      rw [hvn] at htx
      have hcall := fun W (hW : Below wr.heap.size wr W) => hI.out.1 xv _ _ W (hlx.below hW) hvx (hU.later (B.out.trans (hW.mono B.out.size)))
      have zk : (k : Int) < (xs.length : Int) := by omega
      have hrowO : ∀ d, ((wr.alloc O).drewN d).heap[wr.heap.size]? = some O := fun d => heap_alloc_new wr O
      have hprev : k = 0 ∨ ∃ j pn, k = j + 1 ∧ wr.cell? ⟨b0, j * 6, none⟩ = some (.string pn) ∧ cmpT pn xn < 0 := by
        by_cases h0 : k = 0
        · exact .inl h0
        · obtain ⟨j, rfl⟩ : ∃ j, k = j + 1 := ⟨k - 1, by omega⟩
          obtain ⟨⟨pn, pv, pl, pf⟩, hpx⟩ : ∃ x, xs[j]? = some x := ⟨_, List.getElem?_eq_getElem (by omega)⟩
          refine .inr ⟨j, pn, rfl, (hrm.fl hpx).1, ?_⟩
          have hps : (xs.map Fl.pair)[j]? = some (pn, pv) := by rw [List.getElem?_map, hpx]; rfl
          have hps1 : (xs.map Fl.pair)[j + 1]? = some (xn, xv) := by rw [List.getElem?_map, hx]; rfl
          have hadj : ∀ (l : List (ByteArray × V)) (j : Nat) (a b : ByteArray × V), Rises l → l[j]? = some a → l[j + 1]? = some b → cmpT a.1 b.1 < 0 := by
            intro l
            induction l with
            | nil => intro j a b _ h; simp at h
            | cons y l ihl =>
              intro j a b hr h1 h2
              cases j with
              | zero =>
                simp at h1 h2
                subst h1
                exact hr.all b (List.mem_of_getElem? h2)
              | succ j => exact ihl j a b hr.tail (by simpa using h1) (by simpa using h2)
          exact hadj _ j _ _ hri hps hps1
      have H2 := (show Hid _ from And.intro hBa (And.intro hBr (And.intro hrowO hO)))
      clear hrow hl hv hU hlx hvx hx hrm hri hBa hBr hrowO
      rcases hprev with rfl | ⟨j, pn, rfl, hpc, hlt0⟩
      · go_wp2_with fail
        go_quiet (fail)
        go_wp2_with fail
        refine (htx _ (by rw [← H2.out.2.2.2]; exact H2.out.1 _)).mono ?_
        rintro e w1 ⟨rfl, hb1⟩
        obtain ⟨hBa, hBr, hrowO, hO⟩ := H2.out
        rw [← hO] at hb1
        have p1 := (hb1.block wr.heap.size (by simp)).trans (hrowO _)
        rw [hO] at p1
        obtain ⟨k0, k1, k2, k3, k4, k5, kf⟩ := row6 p1
        have hB1 := (hBr _).trans (hb1.mono (hBr _).size)
        have hBw1 := (hBa _).trans (hb1.mono (hBa _).size)
        have hlt1 := lt_of_heap p1
        have hc1 := hcall _ hB1
        have H3 := (show Hid _ from And.intro hBw1 hBw1)
        clear htx hcall hBa hBr hrowO hO hb1 p1 hB1 hBw1
        go_wp2_with fail
        refine hc1.mono ?_
        rintro e w2 ⟨rfl, hb2⟩
        clear hc1
        go_wp2_with fail
        go_roundg (xs.length - (0 + 1))
        case measure => omega
        case rel => exact ⟨0 + 1, by omega, by omega, by go_num, H3.out.1.trans (hb2.mono H3.out.1.size)⟩
      · have zj : (0 : Int) < (j : Int) + 1 := by omega
        have hsl := str_ge hlt0
        have hb0r : b0 < wr.heap.size := lt_of_cell hpc
        have zj2 : (j : Int) < (xs.length : Int) := by omega
        clear hlt0
        go_wp2_with fail
        go_quiet (fail)
        go_wp2_with fail
        refine (htx _ (by rw [← H2.out.2.2.2]; exact H2.out.1 _)).mono ?_
        rintro e w1 ⟨rfl, hb1⟩
        obtain ⟨hBa, hBr, hrowO, hO⟩ := H2.out
        rw [← hO] at hb1
        have p1 := (hb1.block wr.heap.size (by simp)).trans (hrowO _)
        rw [hO] at p1
        obtain ⟨k0, k1, k2, k3, k4, k5, kf⟩ := row6 p1
        have hB1 := (hBr _).trans (hb1.mono (hBr _).size)
        have hBw1 := (hBa _).trans (hb1.mono (hBa _).size)
        have hlt1 := lt_of_heap p1
        have hc1 := hcall _ hB1
        have H3 := (show Hid _ from And.intro hBw1 hBw1)
        clear htx hcall hBa hBr hrowO hO hb1 p1 hB1 hBw1
        go_wp2_with fail
        refine hc1.mono ?_
        rintro e w2 ⟨rfl, hb2⟩
        clear hc1
        go_wp2_with fail
        go_roundg (xs.length - ((j + 1) + 1))
        case measure => omega
        case rel => exact ⟨(j + 1) + 1, by omega, by omega, by go_num, H3.out.1.trans (hb2.mono H3.out.1.size)⟩
    · have zk : ¬ (k : Int) < (xs.length : Int) := by omega
      go_wp2_with fail
      go_ret
      exact ⟨rfl, B.out⟩

theorem bare_num (a1 a2 : Option Addr) (c1 c2 : Nat) (k m : Int) (hk : k = 0 ∧ m = 0 ∨ k = 1 ∨ k = 2) (w : World) : Calls Tryz.prog 36 #[.agg #[.int .i64 k, .int .i64 m, .string ⟨#[]⟩, .slice a1 0 c1, .slice a2 0 c2]] w fun e w' => e = .returned (.bool true) ∧ Below w.heap.size w w' := by
  by_cases h : m = 0
  · subst h
    rcases hk with ⟨rfl, _⟩ | rfl | rfl
    all_goals
      go_enter Tryz.func36, Tryz.ntmps36
      go_wp2
      go_ret
      exact ⟨rfl, (Below.refl _ _).alloc (Nat.le_refl _) _⟩
  · have h' : (m == 0) = false := by simpa using h
    rcases hk with ⟨_, e⟩ | rfl | rfl
    · exact absurd e h
    all_goals
      go_enter Tryz.func36, Tryz.ntmps36
      go_wp2
      go_ret
      exact ⟨rfl, (Below.refl _ _).alloc (Nat.le_refl _) _⟩
theorem bare_text (a1 a2 : Option Addr) (c1 c2 : Nat) (t : ByteArray) (w : World) : Calls Tryz.prog 36 #[.agg #[.int .i64 3, .int .i64 0, .string t, .slice a1 0 c1, .slice a2 0 c2]] w fun e w' => e = .returned (.bool true) ∧ Below w.heap.size w w' := by
  go_enter Tryz.func36, Tryz.ntmps36
  go_wp2
  all_goals
    go_ret
    exact ⟨rfl, (Below.refl _ _).alloc (Nat.le_refl _) _⟩
theorem bare_list (a2 : Option Addr) (c2 : Nat) (a : Option Addr) (n c : Nat) (w : World) : Calls Tryz.prog 36 #[.agg #[.int .i64 4, .int .i64 0, .string ⟨#[]⟩, .slice a n c, .slice a2 0 c2]] w fun e w' => e = .returned (.bool true) ∧ Below w.heap.size w w' := by
  obtain ⟨q, hq⟩ : ∃ q, ((n : Int) == 0) = q := ⟨_, rfl⟩
  cases q
  all_goals
    go_enter Tryz.func36, Tryz.ntmps36
    go_wp2
    go_ret
    exact ⟨rfl, (Below.refl _ _).alloc (Nat.le_refl _) _⟩
theorem bare_objs (a2 : Option Addr) (c2 : Nat) (a : Option Addr) (n c : Nat) (w : World) : Calls Tryz.prog 36 #[.agg #[.int .i64 5, .int .i64 0, .string ⟨#[]⟩, .slice a2 0 c2, .slice a n c]] w fun e w' => e = .returned (.bool true) ∧ Below w.heap.size w w' := by
  obtain ⟨q, hq⟩ : ∃ q, ((n : Int) == 0) = q := ⟨_, rfl⟩
  cases q
  all_goals
    go_enter Tryz.func36, Tryz.ntmps36
    go_wp2
    go_ret
    exact ⟨rfl, (Below.refl _ _).alloc (Nat.le_refl _) _⟩

set_option maxHeartbeats 2000000 in
theorem Valid_num (a1 a2 : Option Addr) (c1 c2 : Nat) (k m : Int) (hk : k = 0 ∧ m = 0 ∨ k = 1 ∧ (m = 0 ∨ m = 1) ∨ k = 2) (w : World) : Calls Tryz.prog 20 #[.agg #[.int .i64 k, .int .i64 m, .string ⟨#[]⟩, .slice a1 0 c1, .slice a2 0 c2]] w fun e w' => e = .returned (.bool true) ∧ Below w.heap.size w w' := by
  have hbare := bare_num a1 a2 c1 c2 k m (by omega) (w.alloc (.cells #[.int .i64 k, .int .i64 m, .string ⟨#[]⟩, .slice a1 0 c1, .slice a2 0 c2] 31))
  rcases hk with ⟨rfl, rfl⟩ | ⟨rfl, rfl | rfl⟩ | rfl
  all_goals
    go_enter Tryz.func20, Tryz.ntmps20
    go_wp2_with fail
    refine hbare.mono ?_
    rintro e w1 ⟨rfl, hb⟩
    have p1 := (hb.block w.heap.size (by simp)).trans (heap_alloc_new w _)
    obtain ⟨k0, k1, k2, k3, k4, kf⟩ := row5 p1
    have hB1 : Below w.heap.size w w1 := ((Below.refl _ _).alloc (Nat.le_refl _) _).trans (hb.mono (by simp))
    clear p1 hb hbare
    go_wp2
    go_ret
    exact ⟨rfl, hB1⟩
set_option maxHeartbeats 2000000 in
theorem Valid_text (a1 a2 : Option Addr) (c1 c2 : Nat) (t : ByteArray) (hz : t.size ≤ 1000000) (hv : Lib.validD t.data.toList = true) (w : World) (hU : U8 w) : Calls Tryz.prog 20 #[.agg #[.int .i64 3, .int .i64 0, .string t, .slice a1 0 c1, .slice a2 0 c2]] w fun e w' => e = .returned (.bool true) ∧ Below w.heap.size w w' := by
  have hbare := bare_text a1 a2 c1 c2 t (w.alloc (.cells #[.int .i64 3, .int .i64 0, .string t, .slice a1 0 c1, .slice a2 0 c2] 31))
  have htx := fun W (hW : Below w.heap.size w W) => textValid_any t W (by omega) (hU.later hW)
  rw [hv] at htx
  clear hv hU hz
  all_goals
    go_enter Tryz.func20, Tryz.ntmps20
    go_wp2_with fail
    refine hbare.mono ?_
    rintro e w1 ⟨rfl, hb⟩
    have p1 := (hb.block w.heap.size (by simp)).trans (heap_alloc_new w _)
    obtain ⟨k0, k1, k2, k3, k4, kf⟩ := row5 p1
    have hB1 : Below w.heap.size w w1 := ((Below.refl _ _).alloc (Nat.le_refl _) _).trans (hb.mono (by simp))
    clear p1 hb hbare
    go_wp2_with fail
    refine (htx _ hB1).mono ?_
    rintro e w2 ⟨rfl, hb2⟩
    go_wp2
    go_ret
    exact ⟨rfl, hB1.trans (hb2.mono hB1.size)⟩
set_option maxHeartbeats 2000000 in
theorem Valid_list (a2 : Option Addr) (c2 : Nat) (a : Option Addr) (n c : Nat) (w : World) (hc : ∀ W, Below w.heap.size w W → Calls Tryz.prog 38 #[.slice a n c] W fun e w' => e = .returned (.bool true) ∧ Below W.heap.size W w') : Calls Tryz.prog 20 #[.agg #[.int .i64 4, .int .i64 0, .string ⟨#[]⟩, .slice a n c, .slice a2 0 c2]] w fun e w' => e = .returned (.bool true) ∧ Below w.heap.size w w' := by
  have hbare := bare_list a2 c2 a n c (w.alloc (.cells #[.int .i64 4, .int .i64 0, .string ⟨#[]⟩, .slice a n c, .slice a2 0 c2] 31))
  all_goals
    go_enter Tryz.func20, Tryz.ntmps20
    go_wp2_with fail
    refine hbare.mono ?_
    rintro e w1 ⟨rfl, hb⟩
    have p1 := (hb.block w.heap.size (by simp)).trans (heap_alloc_new w _)
    obtain ⟨k0, k1, k2, k3, k4, kf⟩ := row5 p1
    have hB1 : Below w.heap.size w w1 := ((Below.refl _ _).alloc (Nat.le_refl _) _).trans (hb.mono (by simp))
    clear p1 hb hbare
    go_wp2_with fail
    refine (hc _ hB1).mono ?_
    rintro e w2 ⟨rfl, hb2⟩
    go_wp2
    go_ret
    exact ⟨rfl, hB1.trans (hb2.mono hB1.size)⟩
set_option maxHeartbeats 2000000 in
theorem Valid_objs (a2 : Option Addr) (c2 : Nat) (a : Option Addr) (n c : Nat) (w : World) (hc : ∀ W, Below w.heap.size w W → Calls Tryz.prog 39 #[.slice a n c] W fun e w' => e = .returned (.bool true) ∧ Below W.heap.size W w') : Calls Tryz.prog 20 #[.agg #[.int .i64 5, .int .i64 0, .string ⟨#[]⟩, .slice a2 0 c2, .slice a n c]] w fun e w' => e = .returned (.bool true) ∧ Below w.heap.size w w' := by
  have hbare := bare_objs a2 c2 a n c (w.alloc (.cells #[.int .i64 5, .int .i64 0, .string ⟨#[]⟩, .slice a2 0 c2, .slice a n c] 31))
  all_goals
    go_enter Tryz.func20, Tryz.ntmps20
    go_wp2_with fail
    refine hbare.mono ?_
    rintro e w1 ⟨rfl, hb⟩
    have p1 := (hb.block w.heap.size (by simp)).trans (heap_alloc_new w _)
    obtain ⟨k0, k1, k2, k3, k4, kf⟩ := row5 p1
    have hB1 : Below w.heap.size w w1 := ((Below.refl _ _).alloc (Nat.le_refl _) _).trans (hb.mono (by simp))
    clear p1 hb hbare
    go_wp2_with fail
    refine (hc _ hB1).mono ?_
    rintro e w2 ⟨rfl, hb2⟩
    go_wp2
    go_ret
    exact ⟨rfl, hB1.trans (hb2.mono hB1.size)⟩

theorem validList_none (w : World) : Calls Tryz.prog 38 #[.slice none 0 0] w fun e w' => e = .returned (.bool true) ∧ Below w.heap.size w w' := by
  go_enter Tryz.func38, Tryz.ntmps38
  go_wp2_with fail
  refine wp_loop_rounds 1 ?_
  rw [rounds_succ]
  go_wp2_with fail
  go_ret
  exact ⟨rfl, Below.refl _ _⟩
theorem validFields_none (w : World) : Calls Tryz.prog 39 #[.slice none 0 0] w fun e w' => e = .returned (.bool true) ∧ Below w.heap.size w w' := by
  go_enter Tryz.func39, Tryz.ntmps39
  go_wp2_with fail
  refine wp_loop_rounds 1 ?_
  rw [rounds_succ]
  go_wp2_with fail
  go_ret
  exact ⟨rfl, Below.refl _ _⟩
theorem Valid_any : ∀ n, ValidAt n
  | 0 => by
    rintro v l f w ⟨h1, h2, rfl, rfl⟩ hv hU
    rcases hv with rfl | (rfl | rfl) | ⟨m, rfl⟩ | ⟨t, rfl, hz, ht⟩ | rfl | rfl
    · exact Valid_num _ _ _ _ 0 0 (.inl ⟨rfl, rfl⟩) w
    · exact Valid_num _ _ _ _ 1 0 (.inr (.inl ⟨rfl, .inl rfl⟩)) w
    · exact Valid_num _ _ _ _ 1 1 (.inr (.inl ⟨rfl, .inr rfl⟩)) w
    · exact Valid_num _ _ _ _ 2 m (.inr (.inr rfl)) w
    · exact Valid_text _ _ _ _ t hz ht w hU
    · exact Valid_list _ _ _ _ _ w fun W hW => validList_none W
    · exact Valid_objs _ _ _ _ _ w fun W hW => validFields_none W
  | n + 1 => by
    rintro v l f w hl hv hU
    obtain ⟨al, cl, af, cf, rfl, rfl⟩ := hl.slices
    obtain ⟨⟨es, e1, e2, e3⟩, ⟨fs, f1, f2, f3⟩⟩ := id hl
    rcases hv with rfl | (rfl | rfl) | ⟨m, rfl⟩ | ⟨t, rfl, hz, ht⟩ | ⟨ls, rfl, hls⟩ | ⟨fl, rfl, hri, hfl⟩
    · exact Valid_num _ _ _ _ 0 0 (.inl ⟨rfl, rfl⟩) w
    · exact Valid_num _ _ _ _ 1 0 (.inr (.inl ⟨rfl, .inl rfl⟩)) w
    · exact Valid_num _ _ _ _ 1 1 (.inr (.inl ⟨rfl, .inr rfl⟩)) w
    · exact Valid_num _ _ _ _ 2 m (.inr (.inr rfl)) w
    · exact Valid_text _ _ _ _ t hz ht w hU
    · refine Valid_list _ _ _ _ _ w fun W hW => validList_any n (Valid_any n) es _ W (e2.move fun c _ hc => ⟨trivial, hW.block c hc⟩) (fun e he => Lies.below hW (e3 e he)) (fun e he => hls e.v (by
        have : e.v ∈ es.map El.v := List.mem_map.2 ⟨e, he, rfl⟩
        rw [e1] at this
        exact this)) (hU.later hW)
    · refine Valid_objs _ _ _ _ _ w fun W hW => validFields_any n (Valid_any n) fs _ W (f2.move fun c _ hc => ⟨trivial, hW.block c hc⟩) (fun e he => Lies.below hW (f3 e he)) (fun e he => hfl e.pair (by
        have : e.pair ∈ fs.map Fl.pair := List.mem_map.2 ⟨e, he, rfl⟩
        rw [f1] at this
        exact this)) (by rw [f1]; exact hri) (hU.later hW)
end Go.Proofs.YtnkoblhdbccbeaaGreatDoor

namespace Go.Proofs.YtnkoblhdbccbeaaGreatDoor
open Go.RowKit Go.Extern.Stop Go.Stop Go.Extern

theorem rd_bound : ∀ (n : Nat) (l out : List UInt8) (k : Nat) (o : List UInt8) (m : Nat), l.length ≤ n → rd l out k = some (o, m) → m ≤ k + l.length
  | n, [], out, k, o, m, _, h => by rw [rd_nil] at h; cases h
  | 0, b :: t, out, k, o, m, hn, h => by simp at hn
  | n + 1, b :: t, out, k, o, m, hn, h => by
    by_cases hb : b.toNat = 34
    · rw [rd_quote b t out k hb] at h
      cases h
      simp only [List.length_cons]; omega
    · cases h1 : one (b :: t) with
      | none => rw [rd_none b t out k hb h1] at h; cases h
      | some cw =>
        obtain ⟨c, w⟩ := cw
        rw [rd_some b t out k c w hb h1] at h
        have hp := one_pos h1
        have hl := one_len (by simp) h1
        have := rd_bound n _ _ _ _ _ (by rw [List.length_drop]; omega) h
        rw [List.length_drop] at this
        omega
theorem readL_bound {l o : List UInt8} {m : Nat} (h : readL l = some (o, m)) : m ≤ l.length := by
  cases l with
  | nil => cases h
  | cons b t =>
    simp only [readL] at h
    split at h
    · have := rd_bound t.length t [] 1 o m (Nat.le_refl _) h
      simp only [List.length_cons]; omega
    · cases h

/-- what is answered for a text. -/
def AnsT (w0 : World) (b : Nat) (s : ByteArray) (W : World) (l : List UInt8) (r : Option (List UInt8 × Nat)) (e : Ending) (w' : World) : Prop :=
  Kept b W w' ∧
  match r with
  | none => ∃ x, e = .returned (.tuple #[.string ⟨#[]⟩, x]) ∧ Flt 1 w' x
  | some r => e = .returned (.tuple #[.string ⟨r.1.toArray⟩, .nilIface]) ∧ ∃ k', Rd w0 b s k' w' ∧ s.data.toList.drop k' = l.drop r.2

theorem Wrap_any (x : Value) (hx : ∃ u z, x = .iface u z) (p : ByteArray) (w : World) : Calls Tryz.prog 101 #[x, .string p] w fun e w' => e = .returned (.iface 84 (.pointer (some ⟨w.heap.size, 0, none⟩))) ∧ w' = w.alloc (.cells #[.string p, x] 86) := by
  obtain ⟨u, z, rfl⟩ := hx
  go_enter Tryz.func101, Tryz.ntmps101
  go_wp2
  go_ret
  exact ⟨rfl, rfl⟩
theorem Bad.iface' {w : World} {v : Value} (h : Bad w v) : ∃ u z, v = .iface u z := by
  obtain ⟨p, h⟩ := h
  exact h.iface

theorem undrew {B : Nat} {w W : World} (h : Below B w.drew W) : Below B w W := ⟨h.os, h.tape, h.output, h.size, h.block⟩

set_option maxHeartbeats 2000000 in
theorem quoted_any {w0 w : World} {b k : Nat} {s : ByteArray} (R : Rd w0 b s k w) {r : Option (List UInt8 × Nat)} (hr : readL (s.data.toList.drop k) = r) :
    Calls Tryz.prog 77 #[.pointer (some ⟨b, 0, none⟩)] w (AnsT w0 b s w (s.data.toList.drop k) r) := by
  obtain ⟨c0, c1, cf, hb⟩ := R.cells
  have hk := R.hk
  have hs := R.hs
  have C0 := fun d os => below_regrown_cell c0 d os
  have C1 := fun d os => below_regrown_cell c1 d os
  have hdl := drop_list (s := s) rfl k
  have hz : (s.extract k s.size).size ≤ 140737488355320 := by rw [size_list hdl, List.length_drop, ← size_list (s := s) rfl]; omega
  have hU := fun W (hW : Below w.heap.size w W) => Unquote_any (s.extract k s.size) hz W (R.now.text.below hW)
  rw [hdl, hr] at hU
  have z0 : (0 : Int) ≤ (k : Int) := by omega
  have z1 : (k : Int) ≤ (s.size : Int) := by omega
  have HK := (show Hid _ from And.intro hk (And.intro hs (And.intro hr R)))
  clear hk hs hdl hz R
  cases r with
  | none =>
    clear hr
    go_enter Tryz.func77, Tryz.ntmps77
    go_wp2_with fail
    go_region_with (go_at_call 100; refine (hU _ (Below.refl _ _).drew).mono ?_; rintro e w' ⟨⟨v, rfl, hv⟩, hb'⟩; obtain ⟨u, z, rfl⟩ := hv.iface'; have HV := (show Hid _ from And.intro hv hb'); clear hv hb')
    all_goals
      have hb1 : Below w.heap.size w w' := undrew HV.out.2
      obtain ⟨hk, hs, hr, R⟩ := HK.out
      have hp := jplace_any (R.same hb1)
      have HR := (show Hid _ from hb1)
      clear hU C0 C1 c0 c1 cf hb hk hs hr R hb1
      go_wp2_with fail
      refine hp.mono ?_
      rintro e w2 ⟨⟨p, rfl⟩, hb2⟩
      go_wp2_with fail
      refine (Wrap_any _ ⟨_, _, rfl⟩ p _).mono ?_
      rintro e w3 ⟨rfl, rfl⟩
      go_wp2_with fail
      go_ret2
      have hb1 := HR.out
      have hb3 := (hb1.trans (hb2.mono hb1.size))
      refine ⟨Kept.of_below (hb3.alloc hb3.size _), _, rfl, ?_⟩
      obtain ⟨q, hq⟩ := (HV.out.1.below hb2).below ((Below.refl _ _).alloc (Nat.le_refl _) _)
      refine ⟨[p, q], _, _, rfl, ?_, hq⟩
      show (Array.push _ _)[_]? = _
      rw [Array.getElem?_push, if_pos rfl]
  | some r =>
    have hm := readL_bound hr
    rw [List.length_drop, ← size_list (s := s) rfl] at hm
    have z2 : (k : Int) + (r.2 : Int) ≤ 5000 := by have := HK.out.2.1; omega
    have HM := (show Hid _ from hm)
    clear hr hm
    go_enter Tryz.func77, Tryz.ntmps77
    go_wp2_with fail
    go_region_with (go_at_call 100; refine (hU _ (Below.refl _ _).drew).mono ?_; rintro e w' ⟨hv, hb'⟩; simp only [Tells] at hv; subst hv; have HV := (show Hid _ from hb'); clear hb')
    all_goals
      have hb1 : Below w.heap.size w w' := undrew HV.out
      obtain ⟨hk, hs, hr, R⟩ := HK.out
      have R1 := R.same hb1
      obtain ⟨d0, d1, df, dd⟩ := R1.cells
      have HR := (show Hid _ from And.intro hb1 R1)
      clear hU C0 C1 c0 c1 cf hb hk hs hr R hb1 R1
      go_wp2_with fail
      go_ret2
      obtain ⟨hb1, R1⟩ := HR.out
      refine ⟨(Kept.of_below hb1).trans (Kept.set _), rfl, k + r.2, ?_, by rw [List.drop_drop]⟩
      exact R1.set (k' := k + r.2) (by have := HM.out; have := HK.out.1; omega)

set_option maxHeartbeats 2000000 in
theorem text_any {w0 w : World} {b k : Nat} {s : ByteArray} (R : Rd w0 b s k w) :
    Calls Tryz.prog 46 #[.pointer (some ⟨b, 0, none⟩)] w (Ans w0 b s 0 w (textP (s.data.toList.drop k))) := by
  have hB : Below w.heap.size w (w.alloc (.cells #[.int .i64 0, .int .i64 0, .string ⟨#[]⟩, .slice none 0 0, .slice none 0 0] 31)) := (Below.refl _ _).alloc (Nat.le_refl _) _
  have R1 := R.same hB
  obtain ⟨r, hr⟩ : ∃ r, readL (s.data.toList.drop k) = r := ⟨_, rfl⟩
  have hq := quoted_any R1 hr
  obtain ⟨RR, hRR⟩ : ∃ r, textP (s.data.toList.drop k) = r := ⟨_, rfl⟩
  rw [hRR]
  have HW := (show Hid _ from And.intro hr hRR)
  have HR0 := (show Hid _ from R)
  clear hr hRR R R1 hB
  cases r with
  | none =>
    go_enter Tryz.func46, Tryz.ntmps46
    go_wp2_with fail
    refine hq.mono ?_
    rintro e w1 ⟨K1, x, rfl, hx⟩
    obtain ⟨r0, K1', hne, hle⟩ := wordRow HR0.out K1
    obtain ⟨j0, j1, j2, j3, j4, jf⟩ := row5 r0
    obtain ⟨u, z, rfl⟩ := hx.iface
    have HX := (show Hid _ from And.intro hx (And.intro K1' r0))
    clear hx K1' r0 hq K1
    go_wp2
    obtain ⟨hx, K1', r0⟩ := HX.out
    obtain ⟨q1, hr⟩ := HW.out
    refine bodyPost_ret (v := .tuple #[zeroA, .iface u z]) (by simp [results, Tryz.results46, go_sem, j0, j1, j2, j3, j4]) rfl (Ans.err hx K1' r0 ?_ 0 1 2 3 4 _ _ _ _ _)
    rw [← hr]
    unfold textP
    rw [q1]
  | some r =>
    go_enter Tryz.func46, Tryz.ntmps46
    go_wp2_with fail
    refine hq.mono ?_
    rintro e w1 ⟨K1, rfl, k1, R1, hd1⟩
    obtain ⟨r0, K1', hne, hle⟩ := wordRow HR0.out K1
    obtain ⟨j0, j1, j2, j3, j4, jf⟩ := row5 r0
    have HX := (show Hid _ from And.intro R1 (And.intro K1' (And.intro hne (And.intro hle hd1))))
    clear R1 K1 K1' r0 hne hle hd1 hq
    go_wp2
    obtain ⟨R1, K1', hne, hle, hd1⟩ := HX.out
    obtain ⟨q1, hr⟩ := HW.out
    refine bodyPost_ret (v := .tuple #[.agg #[.int .i64 3, .int .i64 0, .string ⟨r.1.toArray⟩, .slice none 0 0, .slice none 0 0], .nilIface]) (by simp [results, Tryz.results46, go_sem, j0, j1, j2, j3, j4]) rfl (Ans.leaf R1 K1' hne hle 3 0 ⟨r.1.toArray⟩ ?_ 0 1 2 3 4 _ _ _ _ _)
    rw [← hr]
    unfold textP
    rw [q1, hd1]
    rfl
end Go.Proofs.YtnkoblhdbccbeaaGreatDoor

namespace Go.Proofs.YtnkoblhdbccbeaaGreatDoor
open Go.RowKit Go.Extern.Stop Go.Stop Go.Extern

theorem cut_list {s : ByteArray} {l : List UInt8} (h : s.data.toList = l) (a b : Nat) : (s.extract a b).data.toList = (l.drop a).take (b - a) := by
  subst h
  rw [ByteArray.data_extract, Array.toList_extract]

theorem take_at {w0 w : World} {b k : Nat} {s : ByteArray} (R : Rd w0 b s k w) (c : UInt8) (hc : c.toNat ≠ 0) {p : Bool} (hp : decide (hd (s.data.toList.drop k) = c.toNat) = p) :
    Calls Tryz.prog 74 #[.pointer (some ⟨b, 0, none⟩), .string ⟨#[c]⟩] w fun e w' => e = .returned (.bool p) ∧ Kept b w w' ∧ Rd w0 b s (k + p.toNat) w' := by
  refine (take_any R ⟨#[c]⟩ (by show (1 : Nat) ≤ 100; decide) (p := p) (by rw [← hp]; exact has_one _ c hc)).mono ?_
  rintro e w' ⟨rfl, hk, hR⟩
  refine ⟨rfl, hk, ?_⟩
  cases p
  · exact hR
  · exact hR

theorem digs_hd {l : List UInt8} (h : 48 ≤ hd l ∧ hd l ≤ 57) : ∃ b t, l = b :: t ∧ digs l = digs t + 1 := by
  cases l with
  | nil => simp only [hd] at h; omega
  | cons b t => exact ⟨b, t, rfl, if_pos h⟩
theorem digs_no {l : List UInt8} (h : ¬ (48 ≤ hd l ∧ hd l ≤ 57)) : digs l = 0 := by
  cases l with
  | nil => rfl
  | cons b t => exact if_neg h
theorem digs_le : ∀ l : List UInt8, digs l ≤ l.length
  | [] => Nat.le_refl _
  | b :: t => by
    have := digs_le t
    simp only [digs, List.length_cons]
    split <;> omega

/-- what is answered for digits. -/
def AnsD (w0 : World) (b : Nat) (s : ByteArray) (W : World) (k : Nat) (r : Option Nat) (e : Ending) (w' : World) : Prop :=
  Kept b W w' ∧
  match r with
  | none => e = .returned (.bool false) ∧ ∃ k', Rd w0 b s k' w'
  | some n => e = .returned (.bool true) ∧ Rd w0 b s (k + n) w'

set_option maxHeartbeats 2000000 in
theorem digits_any {w0 w : World} {b k : Nat} {s : ByteArray} (R : Rd w0 b s k w) :
    Calls Tryz.prog 75 #[.pointer (some ⟨b, 0, none⟩)] w (AnsD w0 b s w k (digN (s.data.toList.drop k))) := by
  obtain ⟨RR, hRR⟩ : ∃ r, digN (s.data.toList.drop k) = r := ⟨_, rfl⟩
  rw [hRR]
  have HW := (show Hid _ from And.intro hRR R)
  clear hRR
  by_cases h0 : hd (s.data.toList.drop k) = 48
  · have htk := take_at R 48 (by decide) (p := true) (decide_eq_true h0)
    have H0 := (show Hid _ from h0)
    clear R h0
    go_enter Tryz.func75, Tryz.ntmps75
    go_wp2_with fail
    refine htk.mono ?_
    rintro e w1 ⟨rfl, K1, R1⟩
    obtain ⟨c, hc⟩ : ∃ c : Int, ((hd (s.data.toList.drop (k + true.toNat)) : Nat) : Int) = c := ⟨_, rfl⟩
    have hp := peek_any R1 hc
    have HC := (show Hid _ from hc)
    clear hc htk
    go_wp2_with fail
    refine hp.mono ?_
    rintro e w2 ⟨rfl, hb2⟩
    go_wp2_with fail
    refine (jdigit_any c _).mono ?_
    rintro e w3 ⟨rfl, rfl⟩
    have R2 := R1.same hb2
    have K2 := K1.trans (Kept.of_below hb2)
    have HX := (show Hid _ from And.intro R2 K2)
    obtain ⟨q, hq⟩ : ∃ q, decide (48 ≤ c ∧ c ≤ 57) = q := ⟨_, rfl⟩
    have HQ := (show Hid _ from hq)
    rw [hq]
    clear R2 K2 R1 K1 hb2 hq hp
    go_wp2_with fail
    go_ret
    obtain ⟨R2, K2⟩ := HX.out
    obtain ⟨hr, R⟩ := HW.out
    have h0 := H0.out
    refine ⟨K2, ?_⟩
    rw [← hr]
    unfold digN
    rw [if_pos h0]
    have hc : ((hd ((s.data.toList.drop k).drop 1) : Nat) : Int) = c := by rw [List.drop_drop]; exact HC.out
    cases q
    · have h := of_decide_eq_false HQ.out
      rw [if_neg (by omega)]
      exact ⟨rfl, R2⟩
    · have h := of_decide_eq_true HQ.out
      rw [if_pos (by omega)]
      exact ⟨rfl, _, R2⟩
  · have htk := take_at R 48 (by decide) (p := false) (decide_eq_false h0)
    have H0 := (show Hid _ from h0)
    clear R h0
    go_enter Tryz.func75, Tryz.ntmps75
    go_wp2_with fail
    refine htk.mono ?_
    rintro e w1 ⟨rfl, K1, R1⟩
    have R1 : Rd w0 b s k w1 := R1
    obtain ⟨c0, c1, cf, hb⟩ := R1.cells
    have HX := (show Hid _ from And.intro R1 K1)
    clear htk R1 K1 cf
    go_wp2_with fail
    go_loopg [] s.size (fun gg wr => ∃ k', k ≤ k' ∧ s.size - k' ≤ gg ∧ Rd w0 b s k' wr ∧ Kept b w wr ∧ digs (s.data.toList.drop k) = digs (s.data.toList.drop k') + (k' - k))
    case atStart =>
      obtain ⟨R1, K1⟩ := HX.out
      exact ⟨k, Nat.le_refl _, by omega, R1, K1, by omega⟩
    case round =>
      obtain ⟨k', hk, hgg, R', K', hsk⟩ := hrel
      obtain ⟨c, hc⟩ : ∃ c : Int, ((hd (s.data.toList.drop k') : Nat) : Int) = c := ⟨_, rfl⟩
      have hp := peek_any R' hc
      by_cases hdg : 48 ≤ c ∧ c ≤ 57
      · have hlt : k' < s.size := by
          by_cases h : k' < s.size
          · exact h
          · rw [hd_end h] at hc
            simp only [hd] at hc
            omega
        obtain ⟨x, _, hx⟩ := hd_at hlt
        have hg : digs (s.data.toList.drop k') = digs (s.data.toList.drop (k' + 1)) + 1 := by
          obtain ⟨b1, t1, e1, e2⟩ := digs_hd (l := s.data.toList.drop k') (by omega)
          rw [hx] at e1
          injection e1 with _ e3
          rw [e2, e3]
        have hw64 : (k' : Int) + 1 ≤ 5000 := by have := R'.hs; omega
        have HS := (show Hid _ from And.intro hsk (And.intro hk (And.intro hgg (And.intro hlt (And.intro hg (And.intro R' K'))))))
        have hdt := decide_eq_true hdg
        have hjd := fun W => jdigit_any c W
        rw [hdt] at hjd
        clear hsk hk hgg hg hc hx hdg hdt
        go_wp2_with fail
        refine hp.mono ?_
        rintro e w2 ⟨rfl, hb2⟩
        go_wp2_with fail
        refine (hjd _).mono ?_
        rintro e w3 ⟨rfl, rfl⟩
        have R2 := R'.same hb2
        obtain ⟨d0, d1, df, hdb⟩ := R2.cells
        have HY := (show Hid _ from And.intro R2 hb2)
        clear R' K' R2 hb2 hp hjd
        go_wp2_with fail
        go_roundg (s.size - (k' + 1))
        case measure => have := HS.out; omega
        case rel =>
          obtain ⟨hsk, hk, hgg, hlt, hg, R', K'⟩ := HS.out
          obtain ⟨R2, hb2⟩ := HY.out
          refine ⟨k' + 1, by omega, by omega, R2.set (k' := k' + 1) (by omega), (K'.trans (Kept.of_below hb2)).trans (Kept.set _), by omega⟩
      · have hg := digs_no (l := s.data.toList.drop k') (by omega)
        have hdt := decide_eq_false hdg
        have hjd := fun W => jdigit_any c W
        rw [hdt] at hjd
        have HS := (show Hid _ from And.intro hsk (And.intro hk (And.intro hg (And.intro R' K'))))
        clear hsk hk hgg hg hc hdg hdt
        go_wp2_with fail
        refine hp.mono ?_
        rintro e w2 ⟨rfl, hb2⟩
        go_wp2_with fail
        refine (hjd _).mono ?_
        rintro e w3 ⟨rfl, rfl⟩
        have R2 := R'.same hb2
        obtain ⟨d0, d1, df, hdb⟩ := R2.cells
        have HY := (show Hid _ from And.intro R2 hb2)
        clear R' K' R2 hb2 hp hjd
        by_cases hz : k < k'
        · have z1 : (k : Int) < (k' : Int) := by omega
          have z2 : ¬ (k' : Int) ≤ (k : Int) := by omega
          go_wp2_with fail
          go_ret
          obtain ⟨hsk, hk, hg, R', K'⟩ := HS.out
          obtain ⟨R2, hb2⟩ := HY.out
          refine ⟨K'.trans (Kept.of_below hb2), ?_⟩
          rw [← HW.out.1]
          unfold digN
          rw [if_neg H0.out, if_neg (by omega)]
          refine ⟨rfl, ?_⟩
          rw [show k + digs (s.data.toList.drop k) = k' by omega]
          exact R2
        · have z0 : (k' : Int) = (k : Int) := by have := HS.out.2.1; omega
          have z1 : ¬ (k : Int) < (k' : Int) := by omega
          have z2 : (k' : Int) ≤ (k : Int) := by omega
          clear z0
          go_wp2_with fail
          go_ret
          obtain ⟨hsk, hk, hg, R', K'⟩ := HS.out
          obtain ⟨R2, hb2⟩ := HY.out
          refine ⟨K'.trans (Kept.of_below hb2), ?_⟩
          rw [← HW.out.1]
          unfold digN
          rw [if_neg H0.out, if_pos (by omega)]
          exact ⟨rfl, _, R2⟩
end Go.Proofs.YtnkoblhdbccbeaaGreatDoor
