/-
  slices.BinarySearchFunc over fields whose names rise. Conditions: as stated.
-/
import Derived.Test.YtdcaohnaiepllaaGreatDoorVCmp3
import Derived.Test.YtdcaohnaiepllaaGreatDoorVQ
namespace Go.Proofs.YtdcaohnaiepllaaGreatDoor
open Go.RowKit

theorem field1_any (q name : ByteArray) (v : V) (l f : Value) (w : World) (hs : ∃ a1 n1 c1 a2 n2 c2, l = .slice a1 n1 c1 ∧ f = .slice a2 n2 c2) :
    Calls Tryz.prog 89 #[.agg #[.string q, .int .i64 v.kind, .int .i64 v.num, .string v.text, l, f], .string name] w fun e w' => e = .returned (.int .i64 (cmpT q name)) ∧ Below w.heap.size w w' := by
  obtain ⟨a1, n1, c1, a2, n2, c2, rfl, rfl⟩ := hs
  go_enter Tryz.func89, Tryz.ntmps89
  go_wp2_with fail
  refine (Compare_any q name _).mono ?_
  rintro e w1 ⟨rfl, rfl⟩
  go_wp2_with fail
  go_ret
  exact ⟨rfl, (Below.refl _ _).alloc (Nat.le_refl _) _⟩
theorem entersField1 (args : Array Value) (w : World) : (callFunc 89 args).run Tryz.prog w = .ok (.enter 89 args) w := enters_of Tryz.func89 (by kernel_rfl) rfl args w

/-- how many names stand ahead of one. -/
def aheadN (name : ByteArray) : List (ByteArray × V) → Nat
  | [] => 0
  | f :: fs => if cmpT f.1 name < 0 then aheadN name fs + 1 else 0

set_option maxRecDepth 100000 in
set_option maxHeartbeats 2000000 in
theorem Search_any (n : Nat) (xs : List Fl) (sa : Value) (name : ByteArray) (w : World)
    (ha : RowAt (fun _ => True) w 49 6 sa xs.length (encFs xs)) (la : ∀ e ∈ xs, Lies n w e.v e.l e.f) (r : Nat) (p : Bool) (hr : r ≤ xs.length)
    (h1 : ∀ j x, j < r → xs[j]? = some x → cmpT x.name name < 0) (h2 : ∀ j x, r ≤ j → xs[j]? = some x → 0 ≤ cmpT x.name name) (hp : ∀ x, xs[r]? = some x → (cmpT x.name name == 0) = p) (hp0 : r = xs.length → p = false) :
    Calls Tryz.prog 88 #[sa, .string name, .func (.func 89) #[] #[]] w fun e w' => e = .returned (.tuple #[.int .i64 (r : Int), .bool p]) ∧ Below w.heap.size w w' := by
  obtain ⟨aa, ca, rfl⟩ := ha.slice
  have na := ha.2.1
  have eF := entersField1
  have HH := (show Hid _ from And.intro h1 (And.intro h2 (And.intro hp hp0)))
  clear h1 h2 hp hp0
  go_enter Tryz.func88, Tryz.ntmps88
  go_wp2
  go_loopg [9, 10, 11] xs.length (fun gg i j _ wr => ∃ a b : Nat, a ≤ r ∧ r ≤ b ∧ b ≤ xs.length ∧ b - a ≤ gg ∧ i = .int .i64 a ∧ j = .int .i64 b ∧ Aside (Below w.heap.size w wr))
  case atStart => exact ⟨0, xs.length, Nat.zero_le _, hr, Nat.le_refl _, by omega, rfl, rfl, Below.refl _ w⟩
  case round =>
    obtain ⟨a, b, hra, hrb, hbl, hgg, rfl, rfl, BW⟩ := hrel
    by_cases hlt : a < b
    · have zk : (a : Int) < (b : Int) := by omega
      obtain ⟨m, hm⟩ : ∃ m : Nat, ((a : Int) + (b : Int)) / 2 = (m : Int) := ⟨(a + b) / 2, by omega⟩
      have hma : a ≤ m := by omega
      have hmb : m < b := by omega
      obtain ⟨b0, c', e1, hb0, _, hc1, hc2, _⟩ := ha.cells (by omega)
      simp only [Value.slice.injEq, true_and] at e1
      obtain ⟨rfl, rfl⟩ := e1
      obtain ⟨⟨xn, xv, xl, xf⟩, hx⟩ : ∃ x, xs[m]? = some x := ⟨_, List.getElem?_eq_getElem (by omega)⟩
      have hmv : ∀ b, True → b < w.heap.size → True ∧ wr.heap[b]? = w.heap[b]? := fun b _ h => ⟨trivial, BW.out.block b h⟩
      obtain ⟨a0, a1, a2, a3, a4, a5⟩ := (ha.move hmv).fl hx
      have hlx : Lies n wr xv xl xf := (la _ (List.mem_of_getElem? hx)).below BW.out
      simp only at a0 a1 a2 a3 a4 a5
      obtain ⟨al, cl, af, cf, rfl, rfl⟩ := hlx.slices
      have hcall := field1_any xn name xv (.slice al xv.list.length cl) (.slice af xv.fields.length cf) wr ⟨_, _, _, _, _, _, rfl, rfl⟩
      have zm : (m : Int) < (xs.length : Int) := by omega
      have HX := (show Hid _ from hx)
      obtain ⟨c, hc⟩ : ∃ c, cmpT xn name = c := ⟨_, rfl⟩
      have HC := (show Hid _ from hc)
      rw [hc] at hcall
      clear hx hmv hlx la ha hc
      by_cases hc0 : c < 0
      · have hnr : m + 1 ≤ r := by
          rcases Nat.lt_or_ge m r with h | h
          · omega
          · have h' := HH.out.2.1 m _ h HX.out
            simp only at h'
            rw [HC.out] at h'
            omega
        go_wp2_with fail
        refine hcall.mono ?_
        rintro e w' ⟨rfl, hb'⟩
        go_wp2
        go_roundg (b - (m + 1))
        case measure => omega
        case rel => exact ⟨m + 1, b, by omega, by omega, by omega, by omega, by go_num, rfl, BW.out.trans (hb'.mono BW.out.size)⟩
      · have hnr : r ≤ m := by
          rcases Nat.lt_or_ge m r with h | h
          · exact absurd (by rw [← HC.out]; exact HH.out.1 m _ h HX.out) hc0
          · omega
        go_wp2_with fail
        refine hcall.mono ?_
        rintro e w' ⟨rfl, hb'⟩
        go_wp2
        go_roundg (m - a)
        case measure => omega
        case rel => exact ⟨a, m, by omega, by omega, by omega, by omega, rfl, rfl, BW.out.trans (hb'.mono BW.out.size)⟩
    · obtain rfl : r = a := by omega
      obtain rfl : b = r := by omega
      have zk : ¬ (b : Int) < (b : Int) := by omega
      by_cases hz : b < xs.length
      · obtain ⟨b0, c', e1, hb0, _, hc1, hc2, _⟩ := ha.cells (by omega)
        simp only [Value.slice.injEq, true_and] at e1
        obtain ⟨rfl, rfl⟩ := e1
        obtain ⟨⟨xn, xv, xl, xf⟩, hx⟩ : ∃ x, xs[b]? = some x := ⟨_, List.getElem?_eq_getElem (by omega)⟩
        have hmv : ∀ b, True → b < w.heap.size → True ∧ wr.heap[b]? = w.heap[b]? := fun b _ h => ⟨trivial, BW.out.block b h⟩
        obtain ⟨a0, a1, a2, a3, a4, a5⟩ := (ha.move hmv).fl hx
        have hlx : Lies n wr xv xl xf := (la _ (List.mem_of_getElem? hx)).below BW.out
        simp only at a0 a1 a2 a3 a4 a5
        obtain ⟨al, cl, af, cf, rfl, rfl⟩ := hlx.slices
        have hcall := field1_any xn name xv (.slice al xv.list.length cl) (.slice af xv.fields.length cf) wr ⟨_, _, _, _, _, _, rfl, rfl⟩
        have hpx := HH.out.2.2.1 _ hx
        simp only at hpx
        obtain ⟨c, hc⟩ : ∃ c, cmpT xn name = c := ⟨_, rfl⟩
        rw [hc] at hcall hpx
        have zm : (b : Int) < (xs.length : Int) := by omega
        clear hx hmv hlx la ha hc
        go_wp2_with fail
        refine hcall.mono ?_
        rintro e w' ⟨rfl, hb'⟩
        go_wp2
        go_ret2
        exact ⟨by rw [← hpx]; rfl, BW.out.trans (hb'.mono BW.out.size)⟩
      · have zm : ¬ (b : Int) < (xs.length : Int) := by omega
        have hpf := HH.out.2.2.2 (by omega)
        subst hpf
        clear la ha
        go_wp2_with fail
        go_ret2
        exact ⟨rfl, BW.out⟩
end Go.Proofs.YtdcaohnaiepllaaGreatDoor
