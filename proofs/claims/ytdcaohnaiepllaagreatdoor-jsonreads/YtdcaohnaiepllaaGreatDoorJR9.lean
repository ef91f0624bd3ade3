/-
  The program's reader of JSON: objects. Conditions: as stated (texts of at most 4096 bytes).
-/
import Derived.Test.YtdcaohnaiepllaaGreatDoorJR8
namespace Go.Proofs.YtdcaohnaiepllaaGreatDoor
open Go.RowKit Go.Extern.Stop Go.Stop Go.Extern

def liftO (r : Except Int (List (ByteArray × V) × List UInt8)) : Except Int (V × List UInt8) :=
  match r with
  | .error e => .error e
  | .ok r => .ok (objV r.1, r.2)

theorem field_rises {g : List UInt8 → Except Int (V × List UInt8)} {fs : List (ByteArray × V)} {l : List UInt8} {x : List (ByteArray × V) × List UInt8} (h : fieldP g fs l = .ok x) (hr : Rises fs) : Rises x.1 := by
  unfold fieldP at h
  split at h
  · cases h
  · split at h
    · cases h
    · split at h
      · split at h
        · cases h
        · cases h
          exact rises_set _ _ hr
      · cases h

theorem Flt.setc {c : Int} {w : World} {x : Value} {B T o : Nat} {cs : Array Value} (h : Flt c w x) (hB : w.heap[B]? = some (.cells cs T (0, 0))) (hT : T ≠ 77) (v : Value) : Flt c (w.setCell ⟨B, o, none⟩ v) x := by
  obtain ⟨ps, h⟩ := h
  refine ⟨ps, h.kept fun b cs' hb => Below.heap_setCell _ _ _ _ fun e => ?_⟩
  have e : b = B := e
  rw [e, hB] at hb
  cases hb
  exact hT rfl

theorem Kept.setc {b B o : Nat} {w w' : World} (h : Kept b w w') (hB : w.heap.size ≤ B) (v : Value) : Kept b w (w'.setCell ⟨B, o, none⟩ v) := by
  have h2 : Kept B w' (w'.setCell ⟨B, o, none⟩ v) := Kept.set w'
  exact ⟨h2.os.trans h.os, h2.tape.trans h.tape, h2.output.trans h.output, Nat.le_trans h.size h2.size, fun k hk hb => (h2.block k (Nat.lt_of_lt_of_le hk h.size) (by omega)).trans (h.block k hk hb)⟩

/-- an object that is being read. -/
structure OSt (w0 : World) (b : Nat) (s : ByteArray) (n : Nat) (w : World) (r : Except Int (V × List UInt8)) (gg : Nat) (p : Bool) (fs : List Fl) (sl : Value) (wr : World) : Prop where
  kept : Kept b w wr
  row0 : wr.heap[w.heap.size]? = some (.cells #[.int .i64 0, .int .i64 0, .string ⟨#[]⟩, .slice none 0 0, .slice none 0 0] 31 (0, 0))
  row1 : wr.heap[w.heap.size + 1]? = some (.cells #[.int .i64 5, .int .i64 0, .string ⟨#[]⟩, .slice none 0 0, sl] 31 (0, 0))
  grows : GrowsFJ n wr (w.heap.size + 1) sl fs
  rises : Rises (fs.map Fl.pair)
  st : ∃ k', Rd w0 b s k' wr ∧ fs.length ≤ k' ∧ (p = true → r = .ok (objV (fs.map Fl.pair), s.data.toList.drop k')) ∧
    (p = false → s.size - k' < gg ∧ ∃ m, (s.data.toList.drop k').length < m ∧ r = liftO (membsP (valueP n) m (fs.map Fl.pair) (s.data.toList.drop k')))

/-- the object that is whole is answered. -/
theorem OSt.done {w0 w wr : World} {b n gg : Nat} {s : ByteArray} {r : Except Int (V × List UInt8)} {es : List Fl} {sl : Value} (h : OSt w0 b s n w r gg true es sl wr) (hb : b < w.heap.size) (i0 i1 i2 i3 i4 : Nat) (a0 a1 a2 a3 a4 : Value) :
    Ans w0 b s (n + 1) w r (.returned (.tuple #[.agg #[.int .i64 5, .int .i64 0, .string ⟨#[]⟩, .slice none 0 0, sl], .nilIface])) (set5W wr w.heap.size i0 i1 i2 i3 i4 a0 a1 a2 a3 a4) := by
  obtain ⟨k', R', hle, hr, _⟩ := h.st
  rw [hr rfl]
  have h0 : w0.heap.size ≤ w.heap.size := Nat.le_trans R'.le (Nat.le_of_lt hb)
  have hne : ∀ c, w.heap.size < c → (set5W wr w.heap.size i0 i1 i2 i3 i4 a0 a1 a2 a3 a4).heap[c]? = wr.heap[c]? := fun c hc => set5W_ne _ _ _ _ _ _ _ _ _ _ _ _ (by omega)
  have hG' := h.grows.move (W' := set5W wr w.heap.size i0 i1 i2 i3 i4 a0 a1 a2 a3 a4) fun c hc _ => hne c (by omega)
  have hk := R'.hk
  have hs := R'.hs
  refine ⟨h.kept.set5 (Nat.le_refl _) _ _ _ _ _ _ _ _ _ _, _, _, rfl, ⟨⟨[], rfl, RowAt.nil, fun e he => by cases he⟩, ⟨es, rfl, ⟨ownsRow_move (fun c _ _ => ⟨Nat.zero_le _, rfl⟩) hG'.own, by omega, fun c hc => by have := (hG'.own.lt c hc).1; show w.heap.size ≤ c; omega⟩, fun e he => (hG'.rep e he).move fun c hc _ => ⟨by omega, rfl⟩⟩⟩, k', R'.set5 (by omega) h0 _ _ _ _ _ _ _ _ _ _, rfl⟩

set_option maxRecDepth 100000 in
set_option maxHeartbeats 8000000 in
theorem object_any (n : Nat) (D : Int) (hD : 1 ≤ D) (hD2 : D ≤ 100) (ih : ValueAt n (D + 1)) {w0 w : World} {b k : Nat} {s : ByteArray} (R : Rd w0 b s k w) (h123 : hd (s.data.toList.drop k) = 123) :
    Calls Tryz.prog 36 #[.pointer (some ⟨b, 0, none⟩), .int .i64 D] w (Ans w0 b s (n + 1) w (objP (valueP n) ((s.data.toList.drop k).drop 1))) := by
  obtain ⟨RR, hRR⟩ : ∃ r, objP (valueP n) ((s.data.toList.drop k).drop 1) = r := ⟨_, rfl⟩
  rw [hRR]
  obtain ⟨O0, hO0⟩ : ∃ O, O = Obj.cells #[.int .i64 0, .int .i64 0, .string ⟨#[]⟩, .slice none 0 0, .slice none 0 0] 31 := ⟨_, rfl⟩
  obtain ⟨O1, hO1⟩ : ∃ O, O = Obj.cells #[.int .i64 5, .int .i64 0, .string ⟨#[]⟩, .slice none 0 0, .slice none 0 0] 31 := ⟨_, rfl⟩
  have hB2 : Below w.heap.size w ((w.alloc O0).alloc O1) := ((Below.refl _ _).alloc (Nat.le_refl _) _).alloc (by simp) _
  have hbw := lt_of_heap R.rd
  have R1 := R.same hB2
  have htk := take_one R1 123 (by decide) (p := true) (decide_eq_true h123)
  rw [hO0, hO1] at htk
  have HW := (show Hid _ from And.intro hRR (And.intro R (And.intro hO0 (And.intro hO1 (And.intro hB2 hbw)))))
  clear R1 R hRR hO0 hO1 hB2 h123
  go_enter Tryz.func36, Tryz.ntmps36
  go_wp2_with fail
  refine htk.mono ?_
  rintro e w1 ⟨rfl, K1, k1, R1, hd1⟩
  obtain ⟨p, hp⟩ : ∃ p, decide (hd (skip (s.data.toList.drop k1)) = (125 : UInt8).toNat) = p := ⟨_, rfl⟩
  have hmk := mark_one R1 125 (by decide) hp
  have HX := (show Hid _ from And.intro hp (And.intro K1 hd1))
  clear htk hp K1 hd1 R1
  go_wp2_with fail
  refine hmk.mono ?_
  rintro e w2 ⟨rfl, K2, k2, R2, hd2⟩
  have HY := (show Hid _ from And.intro K2 (And.intro R2 hd2))
  clear hmk K2 R2 hd2
  go_wp2_with fail
  go_loopg [7, 8] (s.size + 1) (fun gg s7 _ wr => ∃ (p : Bool) (es : List Fl) (sl : Value), s7 = .bool p ∧ Aside (OSt w0 b s n w RR gg p es sl wr))
  case atStart =>
    obtain ⟨hp, K1, hd1⟩ := HX.out
    obtain ⟨K2, R2, hd2⟩ := HY.out
    obtain ⟨hr, R, hO0, hO1, hB2, hbw⟩ := HW.out
    have K : Kept b w w2 := (Kept.of_below hB2).trans (by rw [hO0, hO1]; exact K1.trans K2)
    have K12 : Kept b ((w.alloc O0).alloc O1) w2 := by rw [hO0, hO1]; exact K1.trans K2
    refine ⟨p, [], .slice none 0 0, rfl, K, ?_, ?_, ⟨World.ownsRow_nil _ _ _ _, fun e he => (by cases he)⟩, trivial, k2, R2, Nat.zero_le _, ?_, ?_⟩
    · rw [K12.block _ (by simp; omega) (by omega), heap_alloc2_old, hO0]
    · rw [K12.block _ (by simp) (by omega), heap_alloc2_new, hO1]
    · intro e
      subst e
      rw [← hr]
      unfold objP
      have hd1' : s.data.toList.drop k1 = (s.data.toList.drop k).drop 1 := hd1
      have hd2' : s.data.toList.drop k2 = (skip (s.data.toList.drop k1)).drop 1 := hd2
      rw [← hd1', if_pos (show hd (skip (s.data.toList.drop k1)) = 125 from of_decide_eq_true hp), hd2']
      rfl
    · intro e
      subst e
      refine ⟨by omega, (s.data.toList.drop k2).length + 1, by omega, ?_⟩
      rw [← hr]
      unfold objP
      have hd1' : s.data.toList.drop k1 = (s.data.toList.drop k).drop 1 := hd1
      have hd2' : s.data.toList.drop k2 = skip (s.data.toList.drop k1) := hd2
      rw [← hd1', if_neg (show ¬ hd (skip (s.data.toList.drop k1)) = 125 from of_decide_eq_false hp), hd2']
      rfl
  case round =>
    obtain ⟨p, es, sl, rfl, hL⟩ := hrel
    have L := hL.out
    obtain ⟨al, cl, rfl⟩ := ownsRow_slice L.grows.own
    have hbw := HW.out.2.2.2.2.2
    clear HX HY
    cases p
    · obtain ⟨k', R', hle, _, hst⟩ := L.st
      obtain ⟨hgg, m, hm, hr⟩ := hst rfl
      have hcall := field_any n D hD hD2 ih R' (B := w.heap.size + 1) (by omega) (lt_of_heap L.row1) L.grows L.rises (by have := R'.hk; have := R'.hs; omega)
      obtain ⟨rv, hrv⟩ : ∃ r, fieldP (valueP n) (es.map Fl.pair) (s.data.toList.drop k') = r := ⟨_, rfl⟩
      rw [hrv] at hcall
      obtain ⟨c0, c1, c2, c3, c4, cf⟩ := row5 L.row1
      have hz1' : w.heap.size + 1 < wr.heap.size := lt_of_heap L.row1
      have hnb : ∀ c, c < w.heap.size + 1 + 1 → some c ≠ (Value.slice al es.length cl).ownBlock := fun c hc e => by
        have := (L.grows.own.lt c e.symm).1
        omega
      have HS := (show Hid _ from And.intro hrv (And.intro R' (And.intro hle (And.intro hgg (And.intro hm (And.intro hr (And.intro L hnb)))))))
      clear ih hrv R' hle hgg hm hr L hL hst hnb
      go_wp2_with fail
      refine hcall.mono ?_
      rintro e w1 ⟨K1, h1⟩
      clear hcall
      obtain ⟨hrv, R', hle, hgg, hm, hr, L, hnb⟩ := HS.out
      have r0 := (K1.block _ (lt_of_heap L.row0) (by omega) (hnb _ (by omega))).trans L.row0
      have r1 := (K1.block _ (lt_of_heap L.row1) (by omega) (hnb _ (by omega))).trans L.row1
      have hlt1 := lt_of_heap r1
      have K0 : Kept b w w1 := by
        have h1 := L.kept.size
        exact ⟨K1.os.trans L.kept.os, K1.tape.trans L.kept.tape, K1.output.trans L.kept.output, Nat.le_trans h1 K1.size, fun c hc hcb => (K1.block c (by omega) hcb (hnb c (by omega))).trans (L.kept.block c hc hcb)⟩
      obtain ⟨j0, j1, j2, j3, j4, jf⟩ := row5 r0
      obtain ⟨m0, m1, m2, m3, m4, mf⟩ := row5 r1
      clear hrv R' hle hgg hm hr L hnb
      have hz0' : w.heap.size < w1.heap.size := by omega
      cases rv with
      | error c =>
        obtain ⟨x, rfl, hx⟩ := h1
        obtain ⟨u, z, rfl⟩ := hx.iface
        have HZ := (show Hid _ from And.intro hx (And.intro K0 (And.intro r0 r1)))
        clear hx K0 r0 r1 K1
        go_wp2
        obtain ⟨hx, K0, r0, r1⟩ := HZ.out
        obtain ⟨hrv, R', hle, hgg, hm, hr, L, hnb⟩ := HS.out
        have r0' : (w1.setCell ⟨w.heap.size + 1, 4, none⟩ (.slice none 0 0)).heap[w.heap.size]? = some (.cells #[.int .i64 0, .int .i64 0, .string ⟨#[]⟩, .slice none 0 0, .slice none 0 0] 31 (0, 0)) := (heap_setCell_ne _ _ _ (by simp)).trans r0
        obtain ⟨q0, q1, q2, q3, q4, _⟩ := row5 (row_set5 r0' (.int .i64 0) (.int .i64 0) (.string ⟨#[]⟩) (.slice none 0 0) (.slice none 0 0))
        simp only [set5W] at q0 q1 q2 q3 q4
        refine bodyPost_ret (v := .tuple #[zeroA, .iface u z]) (by simp [results, Tryz.results36, go_sem, q0, q1, q2, q3, q4]) rfl (Ans.err (hx.setc r1 (by decide) _) (K0.setc (by omega) _) r0' ?_ 0 1 2 3 4 _ _ _ _ _)
        cases m with
        | zero => omega
        | succ m =>
          rw [hr]
          simp only [membsP, hrv, liftO]
      | ok rv =>
        obtain ⟨sl', fs', rfl, hmap, hln, hG1, k1, R1, hd1⟩ := h1
        obtain ⟨ps, rest⟩ := rv
        simp only at hmap hd1 ⊢
        obtain ⟨al', cl', rfl⟩ := ownsRow_slice hG1.own
        obtain ⟨sv, hsv⟩ : ∃ sv, sv = Value.slice al' fs'.length cl' := ⟨_, rfl⟩
        have K3 : Kept b w (w1.setCell ⟨w.heap.size + 1, 4, none⟩ sv) := K0.setc (by omega) _
        have hKs : Kept (w.heap.size + 1) w1 (w1.setCell ⟨w.heap.size + 1, 4, none⟩ sv) := Kept.set w1
        have R3 : Rd w0 b s k1 (w1.setCell ⟨w.heap.size + 1, 4, none⟩ sv) := HW.out.2.1.kept K3 (by rw [hKs.block b (by omega) (by omega)]; exact R1.rd) R1.hk
        have hen := ends_any R3 125 (by decide)
        rw [hd1] at hen
        obtain ⟨re, hre⟩ : ∃ r, endsP (125 : UInt8).toNat rest = r := ⟨_, rfl⟩
        rw [hre, hsv] at hen
        have HU := (show Hid _ from And.intro K3 (And.intro R3 (And.intro hre (And.intro hsv (And.intro r0 (And.intro r1 (And.intro hmap (And.intro hln (And.intro hG1 hd1)))))))))
        clear K3 R3 hre hsv r0 r1 hmap hln hG1 hd1 hKs R1 K0 K1
        go_wp2_with fail
        refine hen.mono ?_
        rintro e w4 ⟨K4, h4⟩
        clear hen
        cases re with
        | none =>
          obtain ⟨x', rfl, hx⟩ := h4
          obtain ⟨K3, R3, hre, hsv, r0, r1, hmap, hln, hG1, hd1⟩ := HU.out
          rw [← hsv] at K4
          have hs3 : (w1.setCell ⟨w.heap.size + 1, 4, none⟩ sv).heap[w.heap.size]? = some (.cells #[.int .i64 0, .int .i64 0, .string ⟨#[]⟩, .slice none 0 0, .slice none 0 0] 31 (0, 0)) := (heap_setCell_ne _ _ _ (by simp)).trans r0
          obtain ⟨r4, K4'⟩ := wordRow2 K3 hs3 K4 (by omega)
          obtain ⟨j0, j1, j2, j3, j4, jf⟩ := row5 r4
          obtain ⟨u, z, rfl⟩ := hx.iface
          have HV := (show Hid _ from And.intro hx (And.intro K4' r4))
          clear hx K4' r4 K3 R3 hre hsv r0 r1 hs3 K4 m0 m1 m2 m3 m4 mf c0 c1 c2 c3 c4 cf hmap hln hG1 hd1
          go_wp2
          obtain ⟨hx, K4', r4⟩ := HV.out
          obtain ⟨hrv, R', hle, hgg, hm, hr, L, hnb⟩ := HS.out
          obtain ⟨K3, R3, hre, hsv, r0, r1, hmap, hln, hG1, hd1⟩ := HU.out
          refine bodyPost_ret (v := .tuple #[zeroA, .iface u z]) (by simp [results, Tryz.results36, go_sem, j0, j1, j2, j3, j4]) rfl (Ans.err hx K4' r4 ?_ 0 1 2 3 4 _ _ _ _ _)
          cases m with
          | zero => omega
          | succ m =>
            have hre' : endsP 125 rest = none := hre
            rw [hr]
            simp only [membsP, hrv, hre', liftO]
        | some re =>
          obtain ⟨rfl, k4', R4, hd4⟩ := h4
          obtain ⟨p', t'⟩ := re
          simp only at hd4 ⊢
          have HV := (show Hid _ from And.intro R4 (And.intro hd4 K4))
          clear R4 hd4 K4 m0 m1 m2 m3 m4 mf c0 c1 c2 c3 c4 cf j0 j1 j2 j3 j4 jf
          go_wp2_with fail
          go_roundg (s.size - k4' + 1)
          case measure =>
            obtain ⟨hrv, R', hle, hgg, hm, hr, L, hnb⟩ := HS.out
            obtain ⟨K3, R3, hre, hsv, r0, r1, hmap, hln, hG1, hd1⟩ := HU.out
            obtain ⟨R4, hd4, K4⟩ := HV.out
            have h1 := (field_tail (value_tail n) hrv).len
            have h2 := ends_less (by decide) hre
            simp only at h1
            rw [← hd4] at h2
            rw [len_drop] at h1 h2
            omega
          case rel =>
            obtain ⟨hrv, R', hle, hgg, hm, hr, L, hnb⟩ := HS.out
            obtain ⟨K3, R3, hre, hsv, r0, r1, hmap, hln, hG1, hd1⟩ := HU.out
            obtain ⟨R4, hd4, K4⟩ := HV.out
            have h1 := (field_tail (value_tail n) hrv).len
            have h2 := ends_less (by decide) hre
            simp only at h1
            rw [← hd4] at h2
            rw [len_drop] at h1 h2
            rw [← hsv] at K4 hG1
            have hne : ∀ c, c ≠ w.heap.size + 1 → (w1.setCell ⟨w.heap.size + 1, 4, none⟩ sv).heap[c]? = w1.heap[c]? := fun c hc => heap_setCell_ne _ _ _ hc
            have hG4 := (hG1.move (W' := w1.setCell ⟨w.heap.size + 1, 4, none⟩ sv) fun c hc _ => hne c (by omega)).move (W' := w4) fun c hc hl => K4.block c hl (by omega)
            have hz3 : (w1.setCell ⟨w.heap.size + 1, 4, none⟩ sv).heap.size = w1.heap.size := by simp [World.setCell]
            refine ⟨p', fs', sv, rfl, K3.trans K4, ?_, ?_, hG4, ?_, k4', R4, ?_, ?_, ?_⟩
            · rw [K4.block _ (by omega) (by omega), hne _ (by omega)]; exact r0
            · rw [K4.block _ (by omega) (by omega)]; exact setCell_row r1 (i := 4) _
            · rw [hmap]; exact field_rises hrv L.rises
            · omega
            · intro e
              subst e
              cases m with
              | zero => omega
              | succ m =>
                have hre' : endsP 125 rest = some (true, t') := hre
                rw [hr, hd4, hmap]
                simp only [membsP, hrv, hre', liftO]
            · intro e
              subst e
              cases m with
              | zero => omega
              | succ m =>
                have hre' : endsP 125 rest = some (false, t') := hre
                rw [len_drop] at hm
                refine ⟨by omega, m, by rw [len_drop]; omega, ?_⟩
                rw [hr, hd4, hmap]
                simp only [membsP, hrv, hre']
    · obtain ⟨k0, k1, k2, k3, k4, kf⟩ := row5 L.row1
      obtain ⟨j0, j1, j2, j3, j4, jf⟩ := row5 L.row0
      have hz1' : w.heap.size + 1 < wr.heap.size := lt_of_heap L.row1
      clear ih L
      go_wp2
      exact bodyPost_ret (v := .tuple #[.agg #[.int .i64 5, .int .i64 0, .string ⟨#[]⟩, .slice none 0 0, .slice al es.length cl], .nilIface]) (by simp [results, Tryz.results36, go_sem, j0, j1, j2, j3, j4]) rfl (hL.out.done hbw 0 1 2 3 4 _ _ _ _ _)
end Go.Proofs.YtdcaohnaiepllaaGreatDoor
