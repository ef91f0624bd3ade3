/-
  The program's Print by its contract. Conditions: as stated.
-/
import Derived.Test.YtdcaohnaiepllaaGreatDoorJW1
namespace Go.Proofs.YtdcaohnaiepllaaGreatDoor
open Go.RowKit Go.Extern.Stop Go.Stop Go.Extern

/-- write, so deep. -/
def WriteAt (n : Nat) : Prop := ∀ (w0 : World) (b : Nat) (v : V) (l f : Value), Lies n w0 v l f → Fit n v → ∀ (out : List UInt8) (w : World), Wr w0 b out w → out.length + (printV (n + 1) v).length ≤ 1000000000 →
  Calls Tryz.prog 26 #[.pointer (some ⟨b, 0, none⟩), .agg #[.int .i64 v.kind, .int .i64 v.num, .string v.text, l, f]] w fun e w' => e = .returned (.tuple #[]) ∧ Wr w0 b (out ++ printV (n + 1) v) w' ∧ OK5 b w w'

set_option maxRecDepth 100000 in
set_option maxHeartbeats 4000000 in
theorem writeList_any (n : Nat) (ih : ∀ (w0 : World) (b : Nat) (x : V) (l f : Value), Lies n w0 x l f → Fit n x → ∀ (out : List UInt8) (w : World), Wr w0 b out w → out.length + (printV (n + 1) x).length ≤ 1000000000 →
      Calls Tryz.prog 26 #[.pointer (some ⟨b, 0, none⟩), .agg #[.int .i64 x.kind, .int .i64 x.num, .string x.text, l, f]] w fun e w' => e = .returned (.tuple #[]) ∧ Wr w0 b (out ++ printV (n + 1) x) w' ∧ OK5 b w w')
    (w0 : World) (b : Nat) (xs : List El) (sl : Value) (hrow : RowAt (fun _ => True) w0 31 5 sl xs.length (encEs xs)) (hl : ∀ e ∈ xs, Lies n w0 e.v e.l e.f) (hf : ∀ e ∈ xs, Fit n e.v) (out : List UInt8) (w : World) (h : Wr w0 b out w)
    (ps : List (List UInt8)) (hps : ps = (xs.map El.v).map (printV (n + 1))) (hlen : out.length + (sepBy ps).length + 2 ≤ 1000000000) :
    Calls Tryz.prog 57 #[.pointer (some ⟨b, 0, none⟩), sl] w fun e w' => e = .returned (.tuple #[]) ∧ Wr w0 b (out ++ 91 :: (sepBy ps ++ [93])) w' ∧ OK5 b w w' := by
  obtain ⟨aa, ca, rfl⟩ := hrow.slice
  have na := hrow.2.1
  have hp := put_byte h 91 (by omega)
  have HH := (show Hid _ from And.intro hrow (And.intro hl (And.intro hf (And.intro hps hlen))))
  have hI := (show Hid _ from ih)
  clear hrow hl hf hps hlen ih h
  go_enter Tryz.func57, Tryz.ntmps57
  go_wp2_with fail
  refine hp.mono ?_
  rintro e w1 ⟨rfl, W1, hk1⟩
  have H1 := (show Hid _ from And.intro W1 hk1)
  clear hp W1 hk1
  go_wp2_with fail
  go_loopg [4, 5, 10] xs.length (fun gg _ _ i wr => ∃ k : Nat, k ≤ xs.length ∧ xs.length - k ≤ gg ∧ i = .int .i64 k ∧ Aside (Wr w0 b (out ++ [91] ++ sepBy (ps.take k)) wr) ∧ Aside (OK5 b w wr))
  case atStart =>
    refine ⟨0, Nat.zero_le _, by omega, rfl, ?_, H1.out.2⟩
    show Wr _ _ (out ++ [91] ++ []) _
    rw [List.append_nil]
    exact H1.out.1
  case round =>
    obtain ⟨k, hk, hgg, rfl, A, B⟩ := hrel
    by_cases hlt : k < xs.length
    · obtain ⟨hrow, hl, hf, hps, hlen⟩ := HH.out
      obtain ⟨b0, c', e1, hb0, _, hc1, hc2, _⟩ := hrow.cells (by omega)
      simp only [Value.slice.injEq, true_and] at e1
      obtain ⟨rfl, rfl⟩ := e1
      obtain ⟨⟨xv, xl, xf⟩, hx⟩ : ∃ x, xs[k]? = some x := ⟨_, List.getElem?_eq_getElem hlt⟩
      have WA := A.out
      obtain ⟨a0, a1, a2, a3, a4⟩ := (hrow.move fun c _ hl => ⟨trivial, WA.below.block c hl⟩).el hx
      have hlx : Lies n w0 xv xl xf := hl _ (List.mem_of_getElem? hx)
      have hfx : Fit n xv := hf _ (List.mem_of_getElem? hx)
      simp only at a0 a1 a2 a3 a4
      obtain ⟨al, cl, af, cf, rfl, rfl⟩ := hlx.slices
      have hpk : ps[k]? = some (printV (n + 1) xv) := by rw [hps, List.getElem?_map, List.getElem?_map, hx]; rfl
      have hst := sepBy_take hpk
      have hsl := sepBy_take_len ps (k + 1)
      rw [hst, List.length_append, List.length_append] at hsl
      have hcml : (cm k).length ≤ 1 := by unfold cm; split <;> simp
      obtain ⟨O, hO⟩ : ∃ O, O = Obj.cells #[.int .i64 xv.kind, .int .i64 xv.num, .string xv.text, .slice al xv.list.length cl, .slice af xv.fields.length cf] 31 := ⟨_, rfl⟩
      have hBa : Below wr.heap.size wr (wr.alloc O) := (Below.refl _ _).alloc (Nat.le_refl _) _
      have hO5 : OK5 b wr (wr.alloc O) := OK5.of_below hBa
      have hcm := comma_any (WA.same hBa) k (by omega) (by rw [List.length_append, List.length_append, List.length_singleton]; omega)
      rw [hO] at hcm
      have zk : (k : Int) < (xs.length : Int) := by omega
      have hbr : b < wr.heap.size := WA.bld.lt
      have H2 := (show Hid _ from And.intro hlx (And.intro hfx (And.intro hst (And.intro hsl (And.intro hO hO5)))))
      clear hrow hl hf hps hlen WA hlx hfx hpk hst hsl hcml hO hBa hO5 hx
      go_wp2_with fail
      refine hcm.mono ?_
      rintro e w2 ⟨rfl, W2, hk2⟩
      obtain ⟨hlx, hfx, hst, hsl, hO, hO5⟩ := H2.out
      rw [← hO] at hk2
      have r2 := hk2.row (k := wr.heap.size) (by rw [heap_alloc_new, hO]) (by omega) (by decide)
      obtain ⟨j0, j1, j2, j3, j4, jf⟩ := row5 r2
      have hcall := hI.out w0 b xv _ _ hlx hfx _ w2 W2 (by
        have := HH.out.2.2.2.2
        rw [List.length_append, List.length_append, List.length_append, List.length_singleton]
        omega)
      have hlt2 := lt_of_heap r2
      have H3 := (show Hid _ from hk2)
      clear hcm W2 hk2 r2 hlx hfx hst hsl hO hO5
      go_wp2_with fail
      refine hcall.mono ?_
      rintro e w3 ⟨rfl, W3, hk3⟩
      have H4 := (show Hid _ from And.intro W3 hk3)
      clear W3 hk3 hcall
      go_wp2_with fail
      go_roundg (xs.length - (k + 1))
      case measure => omega
      case rel =>
        obtain ⟨W3, hk3⟩ := H4.out
        obtain ⟨hlx, hfx, hst, hsl, hO, hO5⟩ := H2.out
        refine ⟨k + 1, by omega, by omega, by go_num, ?_, ((B.out.trans hO5).trans H3.out).trans hk3⟩
        show Wr _ _ (out ++ [91] ++ sepBy (ps.take (k + 1))) _
        rw [hst]
        simpa [List.append_assoc] using W3
    · have zk : ¬ (k : Int) < (xs.length : Int) := by omega
      obtain ⟨hrow, hl, hf, hps, hlen⟩ := HH.out
      have hk' : k = xs.length := by omega
      have htk : ps.take k = ps := List.take_of_length_le (by rw [hps]; simp; omega)
      have WA := A.out
      rw [htk] at WA
      have hp := put_byte WA 93 (by rw [List.length_append, List.length_append, List.length_singleton]; omega)
      clear hrow hl hf hps hlen WA htk
      go_wp2_with fail
      refine hp.mono ?_
      rintro e w2 ⟨rfl, W2, hk2⟩
      have H2 := (show Hid _ from And.intro W2 hk2)
      clear W2 hk2 hp
      go_wp2_with fail
      obtain ⟨W2, hk2⟩ := H2.out
      exact bodyPost_end (v := .tuple #[]) (by simp [results, Tryz.results57, go_sem]) rfl ⟨rfl, by simpa [List.append_assoc] using W2, B.out.trans hk2⟩
end Go.Proofs.YtdcaohnaiepllaaGreatDoor
