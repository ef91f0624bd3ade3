/-
  The program's reader of JSON: errors, words, texts. Conditions: as stated (texts of at most 4096 bytes).
-/
import Derived.Test.YtdcaohnaiepllaaGreatDoorJR1
import Derived.Test.YtdcaohnaiepllaaGreatDoorVSet
namespace Go.Proofs.YtdcaohnaiepllaaGreatDoor
open Go.RowKit Go.Extern.Stop Go.Stop Go.Extern

/-- an error of a code. -/
def Flt (c : Int) (w : World) (v : Value) : Prop := ∃ ps, Chain w (.iface 38 (.int .i64 c)) ps v
theorem Flt.below {c : Int} {w w' : World} {v : Value} (h : Flt c w v) (hb : Below w.heap.size w w') : Flt c w' v := by
  obtain ⟨p, h⟩ := h
  exact ⟨p, h.below hb⟩
theorem Flt.iface {c : Int} {w : World} {v : Value} (h : Flt c w v) : ∃ u z, v = .iface u z := by
  obtain ⟨p, h⟩ := h
  exact h.iface

theorem jplace_any {w0 w : World} {b k : Nat} {s : ByteArray} (R : Rd w0 b s k w) :
    Calls Tryz.prog 68 #[.pointer (some ⟨b, 0, none⟩)] w fun e w' => (∃ p, e = .returned (.string p)) ∧ Below w.heap.size w w' := by
  have hk : (k : Int) ≤ 4096 := by have := R.hk; have := R.hs; omega
  have hE := R.now.text
  obtain ⟨c0, c1, cf, hb⟩ := R.cells
  have hl := Lib.itoa_length_le (k : Int) (by omega) (by omega)
  clear R
  go_enter Tryz.func68, Tryz.ntmps68
  go_wp2_with fail
  refine (Tryz.strconv_Itoa (k : Int) (by omega) (by omega) _ hE.pow).mono ?_
  rintro e w1 ⟨rfl, j, os, rfl⟩
  have hB := Lib.below_grow w.heap.size w (Nat.le_refl _) j os
  generalize Sort.grow (w.drewN j) os = W1 at *
  generalize Lib.itoa (k : Int) = it at *
  go_wp2_with fail
  go_ret
  exact ⟨⟨_, rfl⟩, hB⟩

theorem fail_any {w0 w : World} {b k : Nat} {s : ByteArray} (R : Rd w0 b s k w) (c : Int) (hc : (c == 0) = false) :
    Calls Tryz.prog 38 #[.pointer (some ⟨b, 0, none⟩), .int .i64 c] w fun e w' => ∃ x, e = .returned x ∧ Flt c w' x ∧ Below w.heap.size w w' := by
  have hp := jplace_any R
  clear R
  go_enter Tryz.func38, Tryz.ntmps38
  go_wp2_with fail
  refine hp.mono ?_
  rintro e w1 ⟨⟨p, rfl⟩, hb1⟩
  go_wp2_with fail
  refine (New_some c hc p _).mono ?_
  rintro e w2 ⟨rfl, rfl⟩
  go_wp2
  go_ret
  refine ⟨_, rfl, ⟨[p], _, _, rfl, ?_, rfl⟩, hb1.alloc hb1.size _⟩
  show (Array.push _ _)[_]? = _
  rw [Array.getElem?_push, if_pos rfl]

/-- the value that is none. -/
abbrev zeroA : Value := .agg #[.int .i64 0, .int .i64 0, .string ⟨#[]⟩, .slice none 0 0, .slice none 0 0]

theorem heap_alloc_old {w : World} {o : Obj} {b : Nat} {o' : Obj} (h : w.heap[b]? = some o') : (w.alloc o).heap[b]? = some o' := by
  rw [Below.heap_alloc _ _ _ (lt_of_heap h)]; exact h
theorem Chain.kept {w w' : World} {fin : Value} (hk : ∀ (b : Nat) (cs : Array Value), w.heap[b]? = some (.cells cs 77 (0, 0)) → w'.heap[b]? = w.heap[b]?) : ∀ {ps : List ByteArray} {v : Value}, Chain w fin ps v → Chain w' fin ps v
  | [], _, h => h
  | _ :: _, _, ⟨b, x, e, hc, h⟩ => ⟨b, x, e, (hk b _ hc).trans hc, Chain.kept hk h⟩
theorem Flt.set5 {c : Int} {w : World} {v : Value} {B T : Nat} {cs : Array Value} (h : Flt c w v) (hB : w.heap[B]? = some (.cells cs T (0, 0))) (hT : T ≠ 77) (i0 i1 i2 i3 i4 : Nat) (a0 a1 a2 a3 a4 : Value) : Flt c (set5W w B i0 i1 i2 i3 i4 a0 a1 a2 a3 a4) v := by
  obtain ⟨ps, h⟩ := h
  refine ⟨ps, h.kept fun b cs' hb => set5W_ne _ _ _ _ _ _ _ _ _ _ _ _ fun e => ?_⟩
  rw [e, hB] at hb
  cases hb
  exact hT rfl

set_option maxHeartbeats 1000000 in
theorem wrongV_any {w0 w : World} {b k : Nat} {s : ByteArray} (R : Rd w0 b s k w) (c : Int) (hc : (c == 0) = false) :
    Calls Tryz.prog 21 #[.pointer (some ⟨b, 0, none⟩), .int .i64 c] w fun e w' => ∃ x, e = .returned (.tuple #[zeroA, x]) ∧ Flt c w' x ∧ Below w.heap.size w w' := by
  have hB : Below w.heap.size w (w.alloc (.cells #[.int .i64 0, .int .i64 0, .string ⟨#[]⟩, .slice none 0 0, .slice none 0 0] 31)) := (Below.refl _ _).alloc (Nat.le_refl _) _
  have hp := fail_any (R.same hB) c hc
  clear R
  go_enter Tryz.func21, Tryz.ntmps21
  go_wp2_with fail
  refine hp.mono ?_
  rintro e w1 ⟨x, rfl, hx, hb1⟩
  have r0 := (hb1.block w.heap.size (by simp)).trans (heap_alloc_new w _)
  obtain ⟨j0, j1, j2, j3, j4, jf⟩ := row5 r0
  have hB1 := hB.trans (hb1.mono hB.size)
  obtain ⟨u, z, rfl⟩ := hx.iface
  have HX := (show Hid _ from And.intro hx (And.intro hB1 r0))
  clear hx hB1 hb1 hB hp r0
  go_wp2
  obtain ⟨hx, hB1, r0⟩ := HX.out
  refine bodyPost_ret (v := .tuple #[zeroA, .iface u z]) (by simp [results, Tryz.results21, go_sem, j0, j1, j2, j3, j4]) rfl ⟨_, rfl, ?_, ?_⟩
  · exact hx.set5 r0 (by decide) 0 1 2 3 4 _ _ _ _ _
  · exact set5W_below hB1 (Nat.le_refl _) 0 1 2 3 4 _ _ _ _ _

/-- what is answered for a value. -/
def Ans (w0 : World) (b : Nat) (s : ByteArray) (n : Nat) (W : World) (r : Except Int (V × List UInt8)) (e : Ending) (w' : World) : Prop :=
  Kept b W w' ∧
  match r with
  | .error c => ∃ x, e = .returned (.tuple #[zeroA, x]) ∧ Flt c w' x
  | .ok r => ∃ l f, e = .returned (.tuple #[.agg #[.int .i64 r.1.kind, .int .i64 r.1.num, .string r.1.text, l, f], .nilIface]) ∧ Rep (fun k => W.heap.size ≤ k) n w' r.1 l f ∧ ∃ k', Rd w0 b s k' w' ∧ s.data.toList.drop k' = r.2

theorem Rd.set5 {w0 w : World} {b k : Nat} {s : ByteArray} (h : Rd w0 b s k w) {B : Nat} (hB : B ≠ b) (h0 : w0.heap.size ≤ B) (i0 i1 i2 i3 i4 : Nat) (a0 a1 a2 a3 a4 : Value) : Rd w0 b s k (set5W w B i0 i1 i2 i3 i4 a0 a1 a2 a3 a4) :=
  ⟨h.env, set5W_below h.below h0 _ _ _ _ _ _ _ _ _ _, h.le, by rw [set5W_ne _ _ _ _ _ _ _ _ _ _ _ _ (fun e => hB e.symm)]; exact h.rd, h.hk, h.hs⟩
theorem Kept.set5 {b B : Nat} {w w' : World} (h : Kept b w w') (hB : w.heap.size ≤ B) (i0 i1 i2 i3 i4 : Nat) (a0 a1 a2 a3 a4 : Value) : Kept b w (set5W w' B i0 i1 i2 i3 i4 a0 a1 a2 a3 a4) := by
  have h2 := set5W_below (Below.refl w.heap.size w') hB i0 i1 i2 i3 i4 a0 a1 a2 a3 a4
  exact ⟨h2.os.trans h.os, h2.tape.trans h.tape, h2.output.trans h.output, Nat.le_trans h.size h2.size, fun k hk hb => (h2.block k hk).trans (h.block k hk hb)⟩

theorem wordRow {w0 w w1 : World} {b k : Nat} {s : ByteArray} (R : Rd w0 b s k w) (K : Kept b (w.alloc (.cells #[.int .i64 0, .int .i64 0, .string ⟨#[]⟩, .slice none 0 0, .slice none 0 0] 31)) w1) :
    w1.heap[w.heap.size]? = some (.cells #[.int .i64 0, .int .i64 0, .string ⟨#[]⟩, .slice none 0 0, .slice none 0 0] 31 (0, 0)) ∧ Kept b w w1 ∧ w.heap.size ≠ b ∧ w0.heap.size ≤ w.heap.size := by
  have hlt := lt_of_heap R.rd
  refine ⟨(K.block w.heap.size (by simp) (by omega)).trans (heap_alloc_new w _), (Kept.of_below ((Below.refl _ _).alloc (Nat.le_refl _) _)).trans K, by omega, R.below.size⟩

/-- a value without parts is answered. -/
theorem Ans.leaf {w0 w w1 : World} {b k : Nat} {s : ByteArray} (R : Rd w0 b s k w1) (K : Kept b w w1) (hne : w.heap.size ≠ b) (hle : w0.heap.size ≤ w.heap.size) (kd m : Int) (t : ByteArray) {r : Except Int (V × List UInt8)} (hr : r = .ok (⟨kd, m, t, [], []⟩, s.data.toList.drop k)) (i0 i1 i2 i3 i4 : Nat) (a0 a1 a2 a3 a4 : Value) :
    Ans w0 b s 0 w r (.returned (.tuple #[.agg #[.int .i64 kd, .int .i64 m, .string t, .slice none 0 0, .slice none 0 0], .nilIface])) (set5W w1 w.heap.size i0 i1 i2 i3 i4 a0 a1 a2 a3 a4) := by
  subst hr
  exact ⟨K.set5 (Nat.le_refl _) _ _ _ _ _ _ _ _ _ _, _, _, rfl, ⟨rfl, rfl, rfl, rfl⟩, k, R.set5 hne hle _ _ _ _ _ _ _ _ _ _, rfl⟩
/-- an error is answered. -/
theorem Ans.err {w0 w w1 : World} {b n : Nat} {s : ByteArray} {c : Int} {x : Value} (hx : Flt c w1 x) (K : Kept b w w1) (r0 : w1.heap[w.heap.size]? = some (.cells #[.int .i64 0, .int .i64 0, .string ⟨#[]⟩, .slice none 0 0, .slice none 0 0] 31 (0, 0))) {r : Except Int (V × List UInt8)} (hr : r = .error c) (i0 i1 i2 i3 i4 : Nat) (a0 a1 a2 a3 a4 : Value) :
    Ans w0 b s n w r (.returned (.tuple #[zeroA, x])) (set5W w1 w.heap.size i0 i1 i2 i3 i4 a0 a1 a2 a3 a4) := by
  subst hr
  exact ⟨K.set5 (Nat.le_refl _) _ _ _ _ _ _ _ _ _ _, x, rfl, hx.set5 r0 (by decide) _ _ _ _ _ _ _ _ _ _⟩

theorem wordRow2 {w w1 w2 : World} {b : Nat} {o : Obj} (K1 : Kept b w w1) (h : w1.heap[w.heap.size]? = some o) (K2 : Kept b w1 w2) (hne : w.heap.size ≠ b) : w2.heap[w.heap.size]? = some o ∧ Kept b w w2 :=
  ⟨(K2.block _ (lt_of_heap h) hne).trans h, K1.trans K2⟩

set_option maxHeartbeats 4000000 in
theorem word_any {w0 w : World} {b k : Nat} {s : ByteArray} (R : Rd w0 b s k w) :
    Calls Tryz.prog 37 #[.pointer (some ⟨b, 0, none⟩)] w (Ans w0 b s 0 w (wordP (s.data.toList.drop k))) := by
  have hB : Below w.heap.size w (w.alloc (.cells #[.int .i64 0, .int .i64 0, .string ⟨#[]⟩, .slice none 0 0, .slice none 0 0] 31)) := (Below.refl _ _).alloc (Nat.le_refl _) _
  have R1 := R.same hB
  obtain ⟨p1, h1⟩ : ∃ p, Lib.hasPrefix (s.data.toList.drop k) (⟨#[110, 117, 108, 108]⟩ : ByteArray).data.toList = p := ⟨_, rfl⟩
  obtain ⟨p2, h2⟩ : ∃ p, Lib.hasPrefix (s.data.toList.drop k) (⟨#[102, 97, 108, 115, 101]⟩ : ByteArray).data.toList = p := ⟨_, rfl⟩
  obtain ⟨p3, h3⟩ : ∃ p, Lib.hasPrefix (s.data.toList.drop k) (⟨#[116, 114, 117, 101]⟩ : ByteArray).data.toList = p := ⟨_, rfl⟩
  have hc1 := take_any R1 ⟨#[110, 117, 108, 108]⟩ (by decide) h1
  obtain ⟨RR, hRR⟩ : ∃ r, wordP (s.data.toList.drop k) = r := ⟨_, rfl⟩
  have HW := (show Hid _ from And.intro h1 (And.intro h2 (And.intro h3 hRR)))
  have HR0 := (show Hid _ from R)
  rw [hRR]
  clear h1 R hB R1 hRR h2 h3
  go_enter Tryz.func37, Tryz.ntmps37
  go_wp2_with fail
  refine hc1.mono ?_
  rintro e w1 ⟨rfl, K1, R1⟩
  obtain ⟨r0, K1', hne, hle⟩ := wordRow HR0.out K1
  cases p1
  · simp only [Bool.false_eq_true, if_false] at R1
    have hc2 := take_any R1 ⟨#[102, 97, 108, 115, 101]⟩ (by decide) HW.out.2.1
    clear hc1 R1 K1
    go_wp2_with fail
    refine hc2.mono ?_
    rintro e w2 ⟨rfl, K2, R2⟩
    obtain ⟨r2, K2'⟩ := wordRow2 K1' r0 K2 hne
    cases p2
    · simp only [Bool.false_eq_true, if_false] at R2
      have hc3 := take_any R2 ⟨#[116, 114, 117, 101]⟩ (by decide) HW.out.2.2.1
      clear hc2 R2 K1' r0 K2
      go_wp2_with fail
      refine hc3.mono ?_
      rintro e w3 ⟨rfl, K3, R3⟩
      obtain ⟨r3, K3'⟩ := wordRow2 K2' r2 K3 hne
      cases p3
      · simp only [Bool.false_eq_true, if_false] at R3
        have hc4 := wrongV_any R3 1 rfl
        clear hc3 K2' r2 K3
        go_wp2_with fail
        refine hc4.mono ?_
        rintro e w4 ⟨x, rfl, hx, hb4⟩
        obtain ⟨r4, K4'⟩ := wordRow2 K3' r3 (Kept.of_below hb4) hne
        obtain ⟨j0, j1, j2, j3, j4, jf⟩ := row5 r4
        obtain ⟨u, z, rfl⟩ := hx.iface
        have HX := (show Hid _ from And.intro hx (And.intro K4' r4))
        clear hc4 hx K4' r4 K3' r3 R3 hb4
        go_wp2
        obtain ⟨hx, K4', r4⟩ := HX.out
        obtain ⟨q1, q2, q3, hr⟩ := HW.out
        refine bodyPost_ret (v := .tuple #[zeroA, .iface u z]) (by simp [results, Tryz.results37, go_sem, j0, j1, j2, j3, j4]) rfl (Ans.err hx K4' r4 ?_ 0 1 2 3 4 _ _ _ _ _)
        rw [← hr]
        unfold wordP
        rw [if_neg (fun h => Bool.false_ne_true (q1.symm.trans h)), if_neg (fun h => Bool.false_ne_true (q2.symm.trans h)), if_neg (fun h => Bool.false_ne_true (q3.symm.trans h))]
      · obtain ⟨j0, j1, j2, j3, j4, jf⟩ := row5 r3
        have HX := (show Hid _ from And.intro R3 (And.intro K3' (And.intro hne hle)))
        clear R3 K3 K3' r3 hc3 hne hle K2' r2
        go_wp2
        obtain ⟨R1, K1', hne, hle⟩ := HX.out
        obtain ⟨q1, q2, q3, hr⟩ := HW.out
        refine bodyPost_ret (v := .tuple #[.agg #[.int .i64 1, .int .i64 1, .string ⟨#[]⟩, .slice none 0 0, .slice none 0 0], .nilIface]) (by simp [results, Tryz.results37, go_sem, j0, j1, j2, j3, j4]) rfl (Ans.leaf R1 K1' hne hle 1 1 ⟨#[]⟩ ?_ 0 1 2 3 4 _ _ _ _ _)
        rw [← hr]
        unfold wordP
        rw [if_neg (fun h => Bool.false_ne_true (q1.symm.trans h)), if_neg (fun h => Bool.false_ne_true (q2.symm.trans h)), if_pos q3, List.drop_drop]
        rfl
    · obtain ⟨j0, j1, j2, j3, j4, jf⟩ := row5 r2
      have HX := (show Hid _ from And.intro R2 (And.intro K2' (And.intro hne hle)))
      clear R2 K2 K2' r2 hc2 hne hle K1' r0
      go_wp2
      obtain ⟨R1, K1', hne, hle⟩ := HX.out
      obtain ⟨q1, q2, q3, hr⟩ := HW.out
      refine bodyPost_ret (v := .tuple #[.agg #[.int .i64 1, .int .i64 0, .string ⟨#[]⟩, .slice none 0 0, .slice none 0 0], .nilIface]) (by simp [results, Tryz.results37, go_sem, j0, j1, j2, j3, j4]) rfl (Ans.leaf R1 K1' hne hle 1 0 ⟨#[]⟩ ?_ 0 1 2 3 4 _ _ _ _ _)
      rw [← hr]
      unfold wordP
      rw [if_neg (fun h => Bool.false_ne_true (q1.symm.trans h)), if_pos q2, List.drop_drop]
      rfl
  · obtain ⟨j0, j1, j2, j3, j4, jf⟩ := row5 r0
    have HX := (show Hid _ from And.intro R1 (And.intro K1' (And.intro hne hle)))
    clear R1 K1 K1' r0 hc1 hne hle
    go_wp2
    obtain ⟨R1, K1', hne, hle⟩ := HX.out
    obtain ⟨q1, q2, q3, hr⟩ := HW.out
    refine bodyPost_ret (v := .tuple #[zeroA, .nilIface]) (by simp [results, Tryz.results37, go_sem, j0, j1, j2, j3, j4]) rfl (Ans.leaf R1 K1' hne hle 0 0 ⟨#[]⟩ ?_ 0 1 2 3 4 _ _ _ _ _)
    rw [← hr]
    unfold wordP
    rw [if_pos q1, List.drop_drop]
    rfl
end Go.Proofs.YtdcaohnaiepllaaGreatDoor
