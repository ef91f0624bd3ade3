/-
  The law's Put by its contract: lists, objects, values. Conditions: as stated.
-/
import Derived.Test.YtehjdamdlokoaaaDoorKL2
import Derived.Lib.QuietBelow
namespace Go.Proofs.YtehjdamdlokoaaaDoor
open Go.RowKit

def LPutAt (n : Nat) : Prop := ∀ (x : V), Nice n x → ∀ (l f : Value) (w : World), Lies n w x l f → (putV (n + 1) x).length ≤ 100000 →
  Calls Tryd.prog 12 #[.agg #[.int .i64 x.kind, .int .i64 x.num, .string x.text, l, f]] w fun e w' => e = .returned (.string ⟨(putV (n + 1) x).toArray⟩) ∧ Below w.heap.size w w'
theorem ksize_list {a : ByteArray} {l : List UInt8} (h : a.data.toList = l) : a.size = l.length := by rw [ba_size, h]

set_option maxRecDepth 100000 in
set_option maxHeartbeats 4000000 in
theorem lput_list (n : Nat) (ih : LPutAt n) (num : Int) (text : ByteArray) (fa : Option Addr) (fn fc : Nat)
    (w0 : World) (xs : List El) (sl : Value) (hrow : RowAt (fun _ => True) w0 28 5 sl xs.length (encEs xs)) (hl : ∀ e ∈ xs, Lies n w0 e.v e.l e.f) (hf : ∀ e ∈ xs, Nice n e.v)
    (ls : List V) (hps : ls = xs.map El.v) (hlen : (ls.flatMap (putV (n + 1))).length + 2 ≤ 100000) :
    Calls Tryd.prog 12 #[.agg #[.int .i64 4, .int .i64 num, .string text, sl, .slice fa fn fc]] w0 fun e w' => e = .returned (.string ⟨(5 :: (ls.flatMap (putV (n + 1)) ++ [0])).toArray⟩) ∧ Below w0.heap.size w0 w' := by
  obtain ⟨aa, ca, rfl⟩ := hrow.slice
  have na := hrow.2.1
  have hcv := byte_str (w0.alloc (.cells #[.int .i64 4, .int .i64 num, .string text, .slice aa xs.length ca, .slice fa fn fc] 28)) (w0.heap.size + 1) (by simp) 5 (by decide) (by decide)
  rw [show UInt8.ofNat (5 : Int).toNat = 5 from rfl] at hcv
  have HH := (show Hid _ from And.intro hrow (And.intro hl (And.intro hf (And.intro hps hlen))))
  have hI := (show Hid _ from ih)
  obtain ⟨R, hR⟩ : ∃ R : ByteArray, (⟨(5 :: (ls.flatMap (putV (n + 1)) ++ [0])).toArray⟩ : ByteArray) = R := ⟨_, rfl⟩
  rw [hR]
  have HR := (show Hid _ from hR)
  clear hrow hl hf hps hlen ih hR
  go_enter Tryd.func12, Tryd.ntmps12
  go_wp2_with fail
  clear hcv
  go_loopg [3, 7, 57] xs.length (fun gg s3 _ i wr => ∃ (k : Nat) (B : ByteArray), k ≤ xs.length ∧ xs.length - k ≤ gg ∧ i = .int .i64 k ∧ s3 = .string B ∧ Aside (B.data.toList = 5 :: (ls.take k).flatMap (putV (n + 1))) ∧ Aside (Below w0.heap.size w0 wr))
  case atStart => exact ⟨0, ⟨#[5]⟩, Nat.zero_le _, by omega, rfl, rfl, rfl, kd_below w0⟩
  case round =>
    obtain ⟨k, B, hk, hgg, rfl, rfl, hB, hW⟩ := hrel
    obtain ⟨hrow, hl, hf, hps, hlen⟩ := HH.out
    have hBz : B.size ≤ 100000 := by
      rw [ksize_list hB.out]
      have := flat_take_len (putV (n + 1)) ls k
      simp only [List.length_cons]
      omega
    by_cases hlt : k < xs.length
    · obtain ⟨b0, c', e1, hb0, _, hc1, hc2, _⟩ := hrow.cells (by omega)
      simp only [Value.slice.injEq, true_and] at e1
      obtain ⟨rfl, rfl⟩ := e1
      obtain ⟨⟨xv, xl, xf⟩, hx⟩ : ∃ x, xs[k]? = some x := ⟨_, List.getElem?_eq_getElem hlt⟩
      obtain ⟨a0, a1, a2, a3, a4⟩ := (hrow.move fun c _ hl => ⟨trivial, hW.out.block c hl⟩).el hx
      have hlx : Lies n wr xv xl xf := (hl _ (List.mem_of_getElem? hx)).below hW.out
      have hfx : Nice n xv := hf _ (List.mem_of_getElem? hx)
      simp only at a0 a1 a2 a3 a4
      obtain ⟨al, cl, af, cf, rfl, rfl⟩ := hlx.slices
      have hpk : ls[k]? = some xv := by rw [hps, List.getElem?_map, hx]; rfl
      have hst := flat_take (putV (n + 1)) hpk
      have hsl := flat_take_len (putV (n + 1)) ls (k + 1)
      rw [hst, List.length_append] at hsl
      obtain ⟨O, hO⟩ : ∃ O, O = Obj.cells #[.int .i64 xv.kind, .int .i64 xv.num, .string xv.text, .slice al xv.list.length cl, .slice af xv.fields.length cf] 28 := ⟨_, rfl⟩
      have hBa : Below wr.heap.size wr (wr.alloc O) := (Below.refl _ _).alloc (Nat.le_refl _) _
      obtain ⟨P, hP⟩ : ∃ P : ByteArray, (⟨(putV (n + 1) xv).toArray⟩ : ByteArray) = P := ⟨_, rfl⟩
      have hPl : P.data.toList = putV (n + 1) xv := by rw [← hP]
      have hPz : P.size ≤ 100000 := by rw [ksize_list hPl]; omega
      have hcall := hI.out xv hfx _ _ (wr.alloc O) (hlx.below hBa) (by omega)
      rw [hP, hO] at hcall
      have zk : (k : Int) < (xs.length : Int) := by omega
      have hb0r : b0 < wr.heap.size := Nat.lt_of_lt_of_le hb0 hW.out.size
      have H2 := (show Hid _ from And.intro hst (And.intro hPl (And.intro hO hBa)))
      clear hrow hl hf hps hlen hlx hfx hpk hst hsl hO hBa hx hP hPl
      go_wp2_with fail
      refine hcall.mono ?_
      rintro e w2 ⟨rfl, hb2⟩
      have H3 := (show Hid _ from hb2)
      clear hcall hb2
      go_wp2_with fail
      go_roundg (xs.length - (k + 1))
      case measure => omega
      case rel =>
        obtain ⟨hst, hPl, hO, hBa⟩ := H2.out
        have hb2 := H3.out
        rw [← hO] at hb2
        refine ⟨k + 1, _, by omega, by omega, by go_num, rfl, ?_, (hW.out.trans (hBa.mono hW.out.size)).trans (hb2.mono (Nat.le_trans hW.out.size hBa.size))⟩
        show _ = _
        rw [hst, kapp_list, hB.out, hPl]
        rfl
    · have zk : ¬ (k : Int) < (xs.length : Int) := by omega
      have htk : ls.take k = ls := List.take_of_length_le (by rw [hps]; simp; omega)
      have hBl : B.data.toList = 5 :: ls.flatMap (putV (n + 1)) := by rw [hB.out, htk]
      have H2 := (show Hid _ from hBl)
      clear hrow hl hf hps hlen hBl htk
      go_wp2_with fail
      go_ret
      refine ⟨?_, hW.out⟩
      show Ending.returned (.string (B ++ ⟨#[0]⟩)) = _
      rw [← HR.out, kof_list (a := B ++ ⟨#[0]⟩) (l := 5 :: (ls.flatMap (putV (n + 1)) ++ [0])) (by rw [kapp_list, H2.out]; rfl)]

set_option maxRecDepth 100000 in
set_option maxHeartbeats 4000000 in
theorem lput_fields (n : Nat) (ih : LPutAt n) (num : Int) (text : ByteArray) (fa : Option Addr) (fn fc : Nat)
    (w0 : World) (xs : List Fl) (sl : Value) (hrow : RowAt (fun _ => True) w0 50 6 sl xs.length (encFs xs)) (hl : ∀ e ∈ xs, Lies n w0 e.v e.l e.f) (hf : ∀ e ∈ xs, e.name.size ≤ 1 ∧ Nice n e.v)
    (ps : List (ByteArray × V)) (hps : ps = xs.map Fl.pair) (hlen : (ps.flatMap (fieldL (putV (n + 1)))).length + 2 ≤ 100000) :
    Calls Tryd.prog 12 #[.agg #[.int .i64 5, .int .i64 num, .string text, .slice fa fn fc, sl]] w0 fun e w' => e = .returned (.string ⟨(6 :: (ps.flatMap (fieldL (putV (n + 1))) ++ [0])).toArray⟩) ∧ Below w0.heap.size w0 w' := by
  obtain ⟨aa, ca, rfl⟩ := hrow.slice
  have na := hrow.2.1
  have hcv := byte_str (w0.alloc (.cells #[.int .i64 5, .int .i64 num, .string text, .slice fa fn fc, .slice aa xs.length ca] 28)) (w0.heap.size + 1) (by simp) 6 (by decide) (by decide)
  rw [show UInt8.ofNat (6 : Int).toNat = 6 from rfl] at hcv
  have HH := (show Hid _ from And.intro hrow (And.intro hl (And.intro hf (And.intro hps hlen))))
  have hI := (show Hid _ from ih)
  obtain ⟨R, hR⟩ : ∃ R : ByteArray, (⟨(6 :: (ps.flatMap (fieldL (putV (n + 1))) ++ [0])).toArray⟩ : ByteArray) = R := ⟨_, rfl⟩
  rw [hR]
  have HR := (show Hid _ from hR)
  clear hrow hl hf hps hlen ih hR
  go_enter Tryd.func12, Tryd.ntmps12
  go_wp2_with fail
  clear hcv
  go_loopg [3, 9, 73] xs.length (fun gg s3 _ i wr => ∃ (k : Nat) (B : ByteArray), k ≤ xs.length ∧ xs.length - k ≤ gg ∧ i = .int .i64 k ∧ s3 = .string B ∧ Aside (B.data.toList = 6 :: (ps.take k).flatMap (fieldL (putV (n + 1)))) ∧ Aside (Below w0.heap.size w0 wr))
  case atStart => exact ⟨0, ⟨#[6]⟩, Nat.zero_le _, by omega, rfl, rfl, rfl, kd_below w0⟩
  case round =>
    obtain ⟨k, B, hk, hgg, rfl, rfl, hB, hW⟩ := hrel
    obtain ⟨hrow, hl, hf, hps, hlen⟩ := HH.out
    have hBz : B.size ≤ 100000 := by
      rw [ksize_list hB.out]
      have := flat_take_len (fieldL (putV (n + 1))) ps k
      simp only [List.length_cons]
      omega
    by_cases hlt : k < xs.length
    · obtain ⟨b0, c', e1, hb0, _, hc1, hc2, _⟩ := hrow.cells (by omega)
      simp only [Value.slice.injEq, true_and] at e1
      obtain ⟨rfl, rfl⟩ := e1
      obtain ⟨⟨xn, xv, xl, xf⟩, hx⟩ : ∃ x, xs[k]? = some x := ⟨_, List.getElem?_eq_getElem hlt⟩
      obtain ⟨a0, a1, a2, a3, a4, a5⟩ := (hrow.move fun c _ hl => ⟨trivial, hW.out.block c hl⟩).fl hx
      have hlx : Lies n wr xv xl xf := (hl _ (List.mem_of_getElem? hx)).below hW.out
      have hfx : xn.size ≤ 1 ∧ Nice n xv := hf _ (List.mem_of_getElem? hx)
      obtain ⟨hxz, hfx⟩ := hfx
      simp only at a0 a1 a2 a3 a4 a5
      obtain ⟨al, cl, af, cf, rfl, rfl⟩ := hlx.slices
      have hpk : ps[k]? = some (xn, xv) := by rw [hps, List.getElem?_map, hx]; rfl
      have hst := flat_take (fieldL (putV (n + 1))) hpk
      have hsl := flat_take_len (fieldL (putV (n + 1))) ps (k + 1)
      rw [hst, List.length_append] at hsl
      have hfl : (fieldL (putV (n + 1)) (xn, xv)).length = 1 + (writtenL xn.data.toList).length + (putV (n + 1) xv).length := by
        show (1 :: (writtenL xn.data.toList ++ putV (n + 1) xv)).length = _
        rw [List.length_cons, List.length_append]; omega
      rw [hfl] at hsl
      obtain ⟨O, hO⟩ : ∃ O, O = Obj.cells #[.string xn, .int .i64 xv.kind, .int .i64 xv.num, .string xv.text, .slice al xv.list.length cl, .slice af xv.fields.length cf] 50 := ⟨_, rfl⟩
      have hBa : Below wr.heap.size wr (wr.alloc O) := (Below.refl _ _).alloc (Nat.le_refl _) _
      obtain ⟨P, hP⟩ : ∃ P : ByteArray, (⟨(putV (n + 1) xv).toArray⟩ : ByteArray) = P := ⟨_, rfl⟩
      have hPl : P.data.toList = putV (n + 1) xv := by rw [← hP]
      have hPz : P.size ≤ 100000 := by rw [ksize_list hPl]; omega
      obtain ⟨Q, hQ⟩ : ∃ P : ByteArray, (⟨(writtenL xn.data.toList).toArray⟩ : ByteArray) = P := ⟨_, rfl⟩
      have hQl : Q.data.toList = writtenL xn.data.toList := by rw [← hQ]
      have hQz : Q.size ≤ 100000 := by rw [ksize_list hQl]; omega
      have hprint := fun d os => Calls.regrown_of (w := wr.alloc O) (d := d) (os := os) ((hI.out xv hfx _ _ (Go.Sort.grow (redrawn (wr.alloc O) d) os) ((hlx.below hBa).below (below_regrown _ d os)) (by omega)).mono fun e w' h => (show e = .returned (.string P) ∧ _ from ⟨by rw [h.1, ← hP], h.2⟩))
      have hquote := fun d os => Calls.regrown_of (w := wr.alloc O) (d := d) (os := os) ((lwritten_any xn (by omega) (Go.Sort.grow (redrawn (wr.alloc O) d) os)).mono fun e w' h => (show e = .returned (.string Q) ∧ _ from ⟨by rw [h.1, ← hQ], by rw [h.2]; exact Below.refl _ _⟩))
      have rO : (wr.alloc O).heap[wr.heap.size]? = some (.cells #[.string xn, .int .i64 xv.kind, .int .i64 xv.num, .string xv.text, .slice al xv.list.length cl, .slice af xv.fields.length cf] 50 (0, 0)) := by rw [heap_alloc_new, hO]
      obtain ⟨g0, g1, g2, g3, g4, g5, gf⟩ := row6 rO
      have G0 := fun d os => below_regrown_cell g0 d os
      have G1 := fun d os => below_regrown_cell g1 d os
      have G2 := fun d os => below_regrown_cell g2 d os
      have G3 := fun d os => below_regrown_cell g3 d os
      have G4 := fun d os => below_regrown_cell g4 d os
      have G5 := fun d os => below_regrown_cell g5 d os
      rw [hO] at G0 G1 G2 G3 G4 G5 hprint hquote
      have zk : (k : Int) < (xs.length : Int) := by omega
      have hb0r : b0 < wr.heap.size := Nat.lt_of_lt_of_le hb0 hW.out.size
      have H2 := (show Hid _ from And.intro hst (And.intro hPl (And.intro hQl (And.intro hO hBa))))
      clear hrow hl hf hps hlen hlx hfx hpk hst hsl hfl hO hBa hx hP hPl hQ hQl rO g0 g1 g2 g3 g4 g5 gf
      go_wp2_with fail
      refine wp_region_quiet_below mixed (by kernel_rfl) ?_
      iterate 4 go_big_quiet_step (fail)
      go_big_quiet_step (exact hquote _ _)
      iterate 3 go_big_quiet_step (fail)
      go_big_quiet_step (exact hprint _ _)
      go_big_quiet_step (fail)
      go_big_quiet_step (fail)
      refine wpQuiet_nil ?_
      rintro w5 ⟨⟨dq, osq⟩, hw5⟩
      have H8 := (show Hid _ from And.intro hw5 hw5)
      clear hw5 G0 G1 G2 G3 G4 G5 hprint hquote
      go_wp2_with fail
      go_roundg (xs.length - (k + 1))
      case measure => omega
      case rel =>
        obtain ⟨hst, hPl, hQl, hO, hBa⟩ := H2.out
        have hw5 := H8.out.1
        rw [← hO] at hw5
        have hb5 : Below (wr.alloc O).heap.size (wr.alloc O) w5 := by rw [hw5]; exact below_regrown _ dq osq
        refine ⟨k + 1, _, by omega, by omega, by go_num, rfl, ?_, (hW.out.trans (hBa.mono hW.out.size)).trans (hb5.mono (Nat.le_trans hW.out.size hBa.size))⟩
        show _ = _
        rw [hst]
        simp [hB.out, hPl, hQl, fieldL]
    · have zk : ¬ (k : Int) < (xs.length : Int) := by omega
      have htk : ps.take k = ps := List.take_of_length_le (by rw [hps]; simp; omega)
      have hBl : B.data.toList = 6 :: ps.flatMap (fieldL (putV (n + 1))) := by rw [hB.out, htk]
      have H2 := (show Hid _ from hBl)
      clear hrow hl hf hps hlen hBl htk
      go_wp2_with fail
      go_ret
      refine ⟨?_, hW.out⟩
      show Ending.returned (.string (B ++ ⟨#[0]⟩)) = _
      rw [← HR.out, kof_list (a := B ++ ⟨#[0]⟩) (l := 6 :: (ps.flatMap (fieldL (putV (n + 1))) ++ [0])) (by rw [kapp_list, H2.out]; rfl)]
end Go.Proofs.YtehjdamdlokoaaaDoor
