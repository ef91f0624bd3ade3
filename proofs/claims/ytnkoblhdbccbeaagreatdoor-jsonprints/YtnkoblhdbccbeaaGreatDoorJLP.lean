/-
  The law's Put by its contract: it tells what the plain function prints. Conditions: as stated.
-/
import Derived.Test.YtnkoblhdbccbeaaGreatDoorJLD
import Derived.Test.YtnkoblhdbccbeaaGreatDoorTPut
import Derived.Test.YtnkoblhdbccbeaaGreatDoorU16
import Derived.Lib.QuietBelow
namespace Go.Proofs.YtnkoblhdbccbeaaGreatDoor
open Go.RowKit Go.Extern.Stop Go.Stop Go.Extern

def LPutAt (n : Nat) : Prop := ∀ (x : V), Nice n x → ∀ (l f : Value) (w : World), Lies n w x l f → (printV (n + 1) x).length ≤ 100000 →
  Calls Tryz.prog 12 #[.agg #[.int .i64 x.kind, .int .i64 x.num, .string x.text, l, f]] w fun e w' => e = .returned (.string ⟨(printV (n + 1) x).toArray⟩) ∧ Below w.heap.size w w'

theorem lapp_list (a b : ByteArray) : (a ++ b).data.toList = a.data.toList ++ b.data.toList := by simp
theorem of_list {a : ByteArray} {l : List UInt8} (h : a.data.toList = l) : a = ⟨l.toArray⟩ := by
  apply ByteArray.ext; apply Array.ext'; rw [h]

set_option maxRecDepth 100000 in
set_option maxHeartbeats 4000000 in
theorem lput_list (n : Nat) (ih : LPutAt n) (num : Int) (text : ByteArray) (fa : Option Addr) (fn fc : Nat)
    (w0 : World) (xs : List El) (sl : Value) (hrow : RowAt (fun _ => True) w0 31 5 sl xs.length (encEs xs)) (hl : ∀ e ∈ xs, Lies n w0 e.v e.l e.f) (hf : ∀ e ∈ xs, Nice n e.v)
    (ps : List (List UInt8)) (hps : ps = (xs.map El.v).map (printV (n + 1))) (hlen : (sepBy ps).length + 2 ≤ 100000) :
    Calls Tryz.prog 12 #[.agg #[.int .i64 4, .int .i64 num, .string text, sl, .slice fa fn fc]] w0 fun e w' => e = .returned (.string ⟨(91 :: (sepBy ps ++ [93])).toArray⟩) ∧ Below w0.heap.size w0 w' := by
  obtain ⟨aa, ca, rfl⟩ := hrow.slice
  have na := hrow.2.1
  have HH := (show Hid _ from And.intro hrow (And.intro hl (And.intro hf (And.intro hps hlen))))
  have hI := (show Hid _ from ih)
  obtain ⟨R, hR⟩ : ∃ R : ByteArray, (⟨(91 :: (sepBy ps ++ [93])).toArray⟩ : ByteArray) = R := ⟨_, rfl⟩
  rw [hR]
  have HR := (show Hid _ from hR)
  clear hrow hl hf hps hlen ih hR
  go_enter Tryz.func12, Tryz.ntmps12
  go_wp2_with fail
  go_loopg [3, 4, 5, 30] xs.length (fun gg s3 _ _ i wr => ∃ (k : Nat) (B : ByteArray), k ≤ xs.length ∧ xs.length - k ≤ gg ∧ i = .int .i64 k ∧ s3 = .string B ∧ Aside (B.data.toList = sepBy (ps.take k)) ∧ Aside (Below w0.heap.size w0 wr))
  case atStart => exact ⟨0, ⟨#[]⟩, Nat.zero_le _, by omega, rfl, rfl, rfl, (Below.refl _ _).alloc (Nat.le_refl _) _⟩
  case round =>
    obtain ⟨k, B, hk, hgg, rfl, rfl, hB, hW⟩ := hrel
    obtain ⟨hrow, hl, hf, hps, hlen⟩ := HH.out
    have hBz : B.size ≤ 100000 := by
      rw [size_list hB.out]
      have := sepBy_take_len ps k
      omega
    by_cases hlt : k < xs.length
    · obtain ⟨b0, c', e1, hb0, _, hc1, hc2, _⟩ := hrow.cells (by omega)
      simp only [Value.slice.injEq, true_and] at e1
      obtain ⟨rfl, rfl⟩ := e1
      obtain ⟨⟨xv, xl, xf⟩, hx⟩ : ∃ x, xs[k]? = some x := ⟨_, List.getElem?_eq_getElem hlt⟩
      obtain ⟨a0, a1, a2, a3, a4⟩ := (hrow.move fun c _ hl => ⟨trivial, hW.out.block c hl⟩).el hx
      have hlx : Lies n wr xv xl xf := (hl _ (List.mem_of_getElem? hx)).below hW.out
      have hfx : Nice n xv := hf _ (List.mem_of_getElem? hx)
      simp only at a0 a1 a2 a3 a4
      obtain ⟨al, cl, af, cf, rfl, rfl⟩ := hlx.slices
      have hpk : ps[k]? = some (printV (n + 1) xv) := by rw [hps, List.getElem?_map, List.getElem?_map, hx]; rfl
      have hst := sepBy_take hpk
      have hsl := sepBy_take_len ps (k + 1)
      rw [hst, List.length_append, List.length_append] at hsl
      obtain ⟨O, hO⟩ : ∃ O, O = Obj.cells #[.int .i64 xv.kind, .int .i64 xv.num, .string xv.text, .slice al xv.list.length cl, .slice af xv.fields.length cf] 31 := ⟨_, rfl⟩
      have hBa : Below wr.heap.size wr (wr.alloc O) := (Below.refl _ _).alloc (Nat.le_refl _) _
      obtain ⟨P, hP⟩ : ∃ P : ByteArray, (⟨(printV (n + 1) xv).toArray⟩ : ByteArray) = P := ⟨_, rfl⟩
      have hPl : P.data.toList = printV (n + 1) xv := by rw [← hP]
      have hPz : P.size ≤ 100000 := by rw [size_list hPl]; omega
      have hcall := hI.out xv hfx _ _ (wr.alloc O) (hlx.below hBa) (by omega)
      rw [hP, hO] at hcall
      have zk : (k : Int) < (xs.length : Int) := by omega
      have hb0r : b0 < wr.heap.size := Nat.lt_of_lt_of_le hb0 hW.out.size
      have H2 := (show Hid _ from And.intro hst (And.intro hPl (And.intro hO hBa)))
      clear hrow hl hf hps hlen hlx hfx hpk hst hsl hO hBa hx hP hPl
      by_cases hk0 : k = 0
      · subst hk0
        go_wp2_with fail
        refine hcall.mono ?_
        rintro e w2 ⟨rfl, hb2⟩
        have H3 := (show Hid _ from hb2)
        clear hcall hb2
        go_wp2_with fail
        go_roundg (xs.length - (0 + 1))
        case measure => omega
        case rel =>
          obtain ⟨hst, hPl, hO, hBa⟩ := H2.out
          have hb2 := H3.out
          rw [← hO] at hb2
          refine ⟨0 + 1, _, by omega, by omega, by go_num, rfl, ?_, (hW.out.trans (hBa.mono hW.out.size)).trans (hb2.mono (Nat.le_trans hW.out.size hBa.size))⟩
          show _ = _
          rw [hst]
          simp [hB.out, hPl, cm, sepBy]
      · have zk0 : (0 : Int) < (k : Int) := by omega
        go_wp2_with fail
        refine hcall.mono ?_
        rintro e w2 ⟨rfl, hb2⟩
        have H3 := (show Hid _ from hb2)
        clear hcall hb2
        go_wp2_with fail
        go_roundg (xs.length - (k + 1))
        case measure => omega
        case rel =>
          obtain ⟨hst, hPl, hO, hBa⟩ := H2.out
          have hb2 := H3.out
          rw [← hO] at hb2
          refine ⟨k + 1, _, by omega, by omega, by go_num, rfl, ?_, (hW.out.trans (hBa.mono hW.out.size)).trans (hb2.mono (Nat.le_trans hW.out.size hBa.size))⟩
          show _ = _
          rw [hst]
          simp [hB.out, hPl, cm, hk0]
    · have zk : ¬ (k : Int) < (xs.length : Int) := by omega
      have htk : ps.take k = ps := List.take_of_length_le (by rw [hps]; simp; omega)
      have hBl : B.data.toList = sepBy ps := by rw [hB.out, htk]
      have H2 := (show Hid _ from hBl)
      clear hrow hl hf hps hlen hBl htk
      go_wp2_with fail
      go_ret
      refine ⟨?_, hW.out⟩
      show Ending.returned (.string (⟨#[91]⟩ ++ B ++ ⟨#[93]⟩)) = _
      rw [← HR.out, of_list (a := ⟨#[91]⟩ ++ B ++ ⟨#[93]⟩) (l := 91 :: (sepBy ps ++ [93])) (by rw [lapp_list, lapp_list, H2.out]; simp)]

set_option maxRecDepth 100000 in
set_option maxHeartbeats 4000000 in
theorem lput_fields (n : Nat) (ih : LPutAt n) (num : Int) (text : ByteArray) (fa : Option Addr) (fn fc : Nat)
    (w0 : World) (xs : List Fl) (sl : Value) (hrow : RowAt (fun _ => True) w0 52 6 sl xs.length (encFs xs)) (hl : ∀ e ∈ xs, Lies n w0 e.v e.l e.f) (hf : ∀ e ∈ xs, e.name.size ≤ 1 ∧ Nice n e.v)
    (ps : List (List UInt8)) (hps : ps = (xs.map Fl.pair).map (fieldL (n + 1))) (hlen : (sepBy ps).length + 2 ≤ 100000) :
    Calls Tryz.prog 12 #[.agg #[.int .i64 5, .int .i64 num, .string text, .slice fa fn fc, sl]] w0 fun e w' => e = .returned (.string ⟨(123 :: (sepBy ps ++ [125])).toArray⟩) ∧ Below w0.heap.size w0 w' := by
  obtain ⟨aa, ca, rfl⟩ := hrow.slice
  have na := hrow.2.1
  have HH := (show Hid _ from And.intro hrow (And.intro hl (And.intro hf (And.intro hps hlen))))
  have hI := (show Hid _ from ih)
  obtain ⟨R, hR⟩ : ∃ R : ByteArray, (⟨(123 :: (sepBy ps ++ [125])).toArray⟩ : ByteArray) = R := ⟨_, rfl⟩
  rw [hR]
  have HR := (show Hid _ from hR)
  clear hrow hl hf hps hlen ih hR
  go_enter Tryz.func12, Tryz.ntmps12
  go_wp2_with fail
  go_loopg [3, 6, 7, 52] xs.length (fun gg s3 _ _ i wr => ∃ (k : Nat) (B : ByteArray), k ≤ xs.length ∧ xs.length - k ≤ gg ∧ i = .int .i64 k ∧ s3 = .string B ∧ Aside (B.data.toList = sepBy (ps.take k)) ∧ Aside (Below w0.heap.size w0 wr))
  case atStart => exact ⟨0, ⟨#[]⟩, Nat.zero_le _, by omega, rfl, rfl, rfl, (Below.refl _ _).alloc (Nat.le_refl _) _⟩
  case round =>
    obtain ⟨k, B, hk, hgg, rfl, rfl, hB, hW⟩ := hrel
    obtain ⟨hrow, hl, hf, hps, hlen⟩ := HH.out
    have hBz : B.size ≤ 100000 := by
      rw [size_list hB.out]
      have := sepBy_take_len ps k
      omega
    by_cases hlt : k < xs.length
    · obtain ⟨b0, c', e1, hb0, _, hc1, hc2, _⟩ := hrow.cells (by omega)
      simp only [Value.slice.injEq, true_and] at e1
      obtain ⟨rfl, rfl⟩ := e1
      obtain ⟨⟨xn, xv, xl, xf⟩, hx⟩ : ∃ x, xs[k]? = some x := ⟨_, List.getElem?_eq_getElem hlt⟩
      obtain ⟨a0, a1, a2, a3, a4, a5⟩ := (hrow.move fun c _ hl => ⟨trivial, hW.out.block c hl⟩).fl hx
      have hlx : Lies n wr xv xl xf := (hl _ (List.mem_of_getElem? hx)).below hW.out
      have hfx : xn.size ≤ 1 ∧ Nice n xv := hf _ (List.mem_of_getElem? hx)
      obtain ⟨hxz, hfx⟩ := hfx
      simp only at a0 a1 a2 a3 a4 a5
      obtain ⟨al, cl, af, cf, rfl, rfl⟩ := hlx.slices
      have hpk : ps[k]? = some (fieldL (n + 1) (xn, xv)) := by rw [hps, List.getElem?_map, List.getElem?_map, hx]; rfl
      have hst := sepBy_take hpk
      have hsl := sepBy_take_len ps (k + 1)
      rw [hst, List.length_append, List.length_append] at hsl
      have hfl : (fieldL (n + 1) (xn, xv)).length = (quoteL xn.data.toList).length + 1 + (printV (n + 1) xv).length := by
        show (quoteL xn.data.toList ++ 58 :: printV (n + 1) xv).length = _
        rw [List.length_append, List.length_cons]; omega
      rw [hfl] at hsl
      obtain ⟨O, hO⟩ : ∃ O, O = Obj.cells #[.string xn, .int .i64 xv.kind, .int .i64 xv.num, .string xv.text, .slice al xv.list.length cl, .slice af xv.fields.length cf] 52 := ⟨_, rfl⟩
      have hBa : Below wr.heap.size wr (wr.alloc O) := (Below.refl _ _).alloc (Nat.le_refl _) _
      obtain ⟨P, hP⟩ : ∃ P : ByteArray, (⟨(printV (n + 1) xv).toArray⟩ : ByteArray) = P := ⟨_, rfl⟩
      have hPl : P.data.toList = printV (n + 1) xv := by rw [← hP]
      have hPz : P.size ≤ 100000 := by rw [size_list hPl]; omega
      obtain ⟨Q, hQ⟩ : ∃ P : ByteArray, (⟨(quoteL xn.data.toList).toArray⟩ : ByteArray) = P := ⟨_, rfl⟩
      have hQl : Q.data.toList = quoteL xn.data.toList := by rw [← hQ]
      have hQz : Q.size ≤ 100000 := by rw [size_list hQl]; omega
      have hprint := fun d os => Calls.regrown_of (w := wr.alloc O) (d := d) (os := os) ((hI.out xv hfx _ _ (Go.Sort.grow (redrawn (wr.alloc O) d) os) ((hlx.below hBa).below (below_regrown _ d os)) (by omega)).mono fun e w' h => (show e = .returned (.string P) ∧ _ from ⟨by rw [h.1, ← hP], h.2⟩))
      have hquote := fun d os => Calls.regrown_of (w := wr.alloc O) (d := d) (os := os) ((Put_any xn (by omega) (Go.Sort.grow (redrawn (wr.alloc O) d) os)).mono fun e w' h => (show e = .returned (.string Q) ∧ _ from ⟨by rw [h.1, ← hQ], h.2⟩))
      have rO : (wr.alloc O).heap[wr.heap.size]? = some (.cells #[.string xn, .int .i64 xv.kind, .int .i64 xv.num, .string xv.text, .slice al xv.list.length cl, .slice af xv.fields.length cf] 52 (0, 0)) := by rw [heap_alloc_new, hO]
      obtain ⟨g0, g1, g2, g3, g4, g5, gf⟩ := row6 rO
      have G0 := fun d os => below_regrown_cell g0 d os
      have G1 := fun d os => below_regrown_cell g1 d os
      have G2 := fun d os => below_regrown_cell g2 d os
      have G3 := fun d os => below_regrown_cell g3 d os
      have G4 := fun d os => below_regrown_cell g4 d os
      have G5 := fun d os => below_regrown_cell g5 d os
      rw [hO] at G0 G1 G2 G3 G4 G5 hprint hquote
      have zk : (k : Int) < (xs.length : Int) := by omega
      have hb0r : b0 < wr.heap.size := Nat.lt_of_lt_of_le hb0 hW.out.size
      have H2 := (show Hid _ from And.intro hst (And.intro hPl (And.intro hQl (And.intro hO hBa))))
      clear hrow hl hf hps hlen hlx hfx hpk hst hsl hfl hO hBa hx hP hPl hQ hQl rO g0 g1 g2 g3 g4 g5 gf
      by_cases hk0 : k = 0
      · subst hk0
        go_wp2_with fail
        refine wp_region_quiet_below mixed (by kernel_rfl) ?_
        iterate 3 go_big_quiet_step (fail)
        go_big_quiet_step (exact hquote _ _)
        iterate 4 go_big_quiet_step (fail)
        go_big_quiet_step (exact hprint _ _)
        go_big_quiet_step (fail)
        go_big_quiet_step (fail)
        refine wpQuiet_nil ?_
        rintro w5 ⟨⟨dq, osq⟩, hw5⟩
        have H8 := (show Hid _ from And.intro hw5 hw5)
        clear hw5 G0 G1 G2 G3 G4 G5 hprint hquote
        go_wp2_with fail
        go_roundg (xs.length - (0 + 1))
        case measure => omega
        case rel =>
          obtain ⟨hst, hPl, hQl, hO, hBa⟩ := H2.out
          have hw5 := H8.out.1
          rw [← hO] at hw5
          have hb5 : Below (wr.alloc O).heap.size (wr.alloc O) w5 := by rw [hw5]; exact below_regrown _ dq osq
          refine ⟨0 + 1, _, by omega, by omega, by go_num, rfl, ?_, (hW.out.trans (hBa.mono hW.out.size)).trans (hb5.mono (Nat.le_trans hW.out.size hBa.size))⟩
          show _ = _
          rw [hst]
          simp [hB.out, hPl, hQl, cm, sepBy, fieldL]
      · have zk0 : (0 : Int) < (k : Int) := by omega
        go_wp2_with fail
        refine wp_region_quiet_below mixed (by kernel_rfl) ?_
        iterate 3 go_big_quiet_step (fail)
        go_big_quiet_step (exact hquote _ _)
        iterate 4 go_big_quiet_step (fail)
        go_big_quiet_step (exact hprint _ _)
        go_big_quiet_step (fail)
        go_big_quiet_step (fail)
        refine wpQuiet_nil ?_
        rintro w5 ⟨⟨dq, osq⟩, hw5⟩
        have H8 := (show Hid _ from And.intro hw5 hw5)
        clear hw5 G0 G1 G2 G3 G4 G5 hprint hquote
        go_wp2_with fail
        go_roundg (xs.length - (k + 1))
        case measure => omega
        case rel =>
          obtain ⟨hst, hPl, hQl, hO, hBa⟩ := H2.out
          have hw5 := H8.out.1
          rw [← hO] at hw5
          have hb5 : Below (wr.alloc O).heap.size (wr.alloc O) w5 := by rw [hw5]; exact below_regrown _ dq osq
          refine ⟨k + 1, _, by omega, by omega, by go_num, rfl, ?_, (hW.out.trans (hBa.mono hW.out.size)).trans (hb5.mono (Nat.le_trans hW.out.size hBa.size))⟩
          show _ = _
          rw [hst]
          simp [hB.out, hPl, hQl, cm, hk0, fieldL]
    · have zk : ¬ (k : Int) < (xs.length : Int) := by omega
      have htk : ps.take k = ps := List.take_of_length_le (by rw [hps]; simp; omega)
      have hBl : B.data.toList = sepBy ps := by rw [hB.out, htk]
      have H2 := (show Hid _ from hBl)
      clear hrow hl hf hps hlen hBl htk
      go_wp2_with fail
      go_ret
      refine ⟨?_, hW.out⟩
      show Ending.returned (.string (⟨#[123]⟩ ++ B ++ ⟨#[125]⟩)) = _
      rw [← HR.out, of_list (a := ⟨#[123]⟩ ++ B ++ ⟨#[125]⟩) (l := 123 :: (sepBy ps ++ [125])) (by rw [lapp_list, lapp_list, H2.out]; simp)]
end Go.Proofs.YtnkoblhdbccbeaaGreatDoor
