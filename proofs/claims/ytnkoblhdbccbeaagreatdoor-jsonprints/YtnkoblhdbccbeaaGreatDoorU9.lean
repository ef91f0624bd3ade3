/-
  The program's reader of JSON: errors, words, texts. Conditions: as stated (texts of at most 4096 bytes).
  The program's Quote by its contract: it tells what the plain function writes. Condition: the text has at most 2^40 bytes.
  The program's printing of JSON: builders, commas. Conditions: as stated.
-/
import Derived.Test.YtnkoblhdbccbeaaGreatDoorU8
import Derived.Test.YtnkoblhdbccbeaaGreatDoorU7
namespace Go.Proofs.YtnkoblhdbccbeaaGreatDoor
open Go.RowKit Go.Extern.Stop Go.Stop Go.Extern

/-- an error of a code. -/
def Flt (c : Int) (w : World) (v : Value) : Prop := ∃ ps, Chain w (.iface 38 (.int .i64 c)) ps v
theorem Flt.below {c : Int} {w w' : World} {v : Value} (h : Flt c w v) (hb : Below w.heap.size w w') : Flt c w' v := by
  obtain ⟨p, h⟩ := h
  exact ⟨p, h.below hb⟩
theorem Flt.iface {c : Int} {w : World} {v : Value} (h : Flt c w v) : ∃ u z, v = .iface u z := by
  obtain ⟨p, h⟩ := h
  exact h.iface

theorem jplace_any {w0 w : World} {b k : Nat} {s : ByteArray} (R : Rd w0 b s k w) :
    Calls Tryz.prog 81 #[.pointer (some ⟨b, 0, none⟩)] w fun e w' => (∃ p, e = .returned (.string p)) ∧ Below w.heap.size w w' := by
  have hk : (k : Int) ≤ 4096 := by have := R.hk; have := R.hs; omega
  have hE := R.now.text
  obtain ⟨c0, c1, cf, hb⟩ := R.cells
  have hl := Lib.itoa_length_le (k : Int) (by omega) (by omega)
  clear R
  go_enter Tryz.func81, Tryz.ntmps81
  go_wp2_with fail
  refine (Tryz.strconv_Itoa (k : Int) (by omega) (by omega) _ hE.pow).mono ?_
  rintro e w1 ⟨rfl, j, os, rfl⟩
  have hB := Lib.below_grow w.heap.size w (Nat.le_refl _) j os
  generalize Sort.grow (w.drewN j) os = W1 at *
  generalize Lib.itoa (k : Int) = it at *
  go_wp2_with fail
  go_ret
  exact ⟨⟨_, rfl⟩, hB⟩

theorem fail_any {w0 w : World} {b k : Nat} {s : ByteArray} (R : Rd w0 b s k w) (c : Int) (hc : (c == 0) = false) :
    Calls Tryz.prog 50 #[.pointer (some ⟨b, 0, none⟩), .int .i64 c] w fun e w' => ∃ x, e = .returned x ∧ Flt c w' x ∧ Below w.heap.size w w' := by
  have hp := jplace_any R
  clear R
  go_enter Tryz.func50, Tryz.ntmps50
  go_wp2_with fail
  refine hp.mono ?_
  rintro e w1 ⟨⟨p, rfl⟩, hb1⟩
  go_wp2_with fail
  refine (New_some c hc p _).mono ?_
  rintro e w2 ⟨rfl, rfl⟩
  go_wp2
  go_ret
  refine ⟨_, rfl, ⟨[p], _, _, rfl, ?_, rfl⟩, hb1.alloc hb1.size _⟩
  show (Array.push _ _)[_]? = _
  rw [Array.getElem?_push, if_pos rfl]

/-- the value that is none. -/
abbrev zeroA : Value := .agg #[.int .i64 0, .int .i64 0, .string ⟨#[]⟩, .slice none 0 0, .slice none 0 0]

theorem heap_alloc_old {w : World} {o : Obj} {b : Nat} {o' : Obj} (h : w.heap[b]? = some o') : (w.alloc o).heap[b]? = some o' := by
  rw [Below.heap_alloc _ _ _ (lt_of_heap h)]; exact h
theorem Chain.kept {w w' : World} {fin : Value} (hk : ∀ (b : Nat) (cs : Array Value), w.heap[b]? = some (.cells cs 86 (0, 0)) → w'.heap[b]? = w.heap[b]?) : ∀ {ps : List ByteArray} {v : Value}, Chain w fin ps v → Chain w' fin ps v
  | [], _, h => h
  | _ :: _, _, ⟨b, x, e, hc, h⟩ => ⟨b, x, e, (hk b _ hc).trans hc, Chain.kept hk h⟩
theorem Flt.set5 {c : Int} {w : World} {v : Value} {B T : Nat} {cs : Array Value} (h : Flt c w v) (hB : w.heap[B]? = some (.cells cs T (0, 0))) (hT : T ≠ 86) (i0 i1 i2 i3 i4 : Nat) (a0 a1 a2 a3 a4 : Value) : Flt c (set5W w B i0 i1 i2 i3 i4 a0 a1 a2 a3 a4) v := by
  obtain ⟨ps, h⟩ := h
  refine ⟨ps, h.kept fun b cs' hb => set5W_ne _ _ _ _ _ _ _ _ _ _ _ _ fun e => ?_⟩
  rw [e, hB] at hb
  cases hb
  exact hT rfl

set_option maxHeartbeats 1000000 in
theorem wrongV_any {w0 w : World} {b k : Nat} {s : ByteArray} (R : Rd w0 b s k w) (c : Int) (hc : (c == 0) = false) :
    Calls Tryz.prog 29 #[.pointer (some ⟨b, 0, none⟩), .int .i64 c] w fun e w' => ∃ x, e = .returned (.tuple #[zeroA, x]) ∧ Flt c w' x ∧ Below w.heap.size w w' := by
  have hB : Below w.heap.size w (w.alloc (.cells #[.int .i64 0, .int .i64 0, .string ⟨#[]⟩, .slice none 0 0, .slice none 0 0] 31)) := (Below.refl _ _).alloc (Nat.le_refl _) _
  have hp := fail_any (R.same hB) c hc
  clear R
  go_enter Tryz.func29, Tryz.ntmps29
  go_wp2_with fail
  refine hp.mono ?_
  rintro e w1 ⟨x, rfl, hx, hb1⟩
  have r0 := (hb1.block w.heap.size (by simp)).trans (heap_alloc_new w _)
  obtain ⟨j0, j1, j2, j3, j4, jf⟩ := row5 r0
  have hB1 := hB.trans (hb1.mono hB.size)
  obtain ⟨u, z, rfl⟩ := hx.iface
  have HX := (show Hid _ from And.intro hx (And.intro hB1 r0))
  clear hx hB1 hb1 hB hp r0
  go_wp2
  obtain ⟨hx, hB1, r0⟩ := HX.out
  refine bodyPost_ret (v := .tuple #[zeroA, .iface u z]) (by simp [results, Tryz.results29, go_sem, j0, j1, j2, j3, j4]) rfl ⟨_, rfl, ?_, ?_⟩
  · exact hx.set5 r0 (by decide) 0 1 2 3 4 _ _ _ _ _
  · exact set5W_below hB1 (Nat.le_refl _) 0 1 2 3 4 _ _ _ _ _

/-- what is answered for a value. -/
def Ans (w0 : World) (b : Nat) (s : ByteArray) (n : Nat) (W : World) (r : Except Int (V × List UInt8)) (e : Ending) (w' : World) : Prop :=
  Kept b W w' ∧
  match r with
  | .error c => ∃ x, e = .returned (.tuple #[zeroA, x]) ∧ Flt c w' x
  | .ok r => ∃ l f, e = .returned (.tuple #[.agg #[.int .i64 r.1.kind, .int .i64 r.1.num, .string r.1.text, l, f], .nilIface]) ∧ Rep (fun k => W.heap.size ≤ k) n w' r.1 l f ∧ ∃ k', Rd w0 b s k' w' ∧ s.data.toList.drop k' = r.2

theorem Rd.set5 {w0 w : World} {b k : Nat} {s : ByteArray} (h : Rd w0 b s k w) {B : Nat} (hB : B ≠ b) (h0 : w0.heap.size ≤ B) (i0 i1 i2 i3 i4 : Nat) (a0 a1 a2 a3 a4 : Value) : Rd w0 b s k (set5W w B i0 i1 i2 i3 i4 a0 a1 a2 a3 a4) :=
  ⟨h.env, set5W_below h.below h0 _ _ _ _ _ _ _ _ _ _, h.le, by rw [set5W_ne _ _ _ _ _ _ _ _ _ _ _ _ (fun e => hB e.symm)]; exact h.rd, h.hk, h.hs⟩
theorem Kept.set5 {b B : Nat} {w w' : World} (h : Kept b w w') (hB : w.heap.size ≤ B) (i0 i1 i2 i3 i4 : Nat) (a0 a1 a2 a3 a4 : Value) : Kept b w (set5W w' B i0 i1 i2 i3 i4 a0 a1 a2 a3 a4) := by
  have h2 := set5W_below (Below.refl w.heap.size w') hB i0 i1 i2 i3 i4 a0 a1 a2 a3 a4
  exact ⟨h2.os.trans h.os, h2.tape.trans h.tape, h2.output.trans h.output, Nat.le_trans h.size h2.size, fun k hk hb => (h2.block k hk).trans (h.block k hk hb)⟩

theorem wordRow {w0 w w1 : World} {b k : Nat} {s : ByteArray} (R : Rd w0 b s k w) (K : Kept b (w.alloc (.cells #[.int .i64 0, .int .i64 0, .string ⟨#[]⟩, .slice none 0 0, .slice none 0 0] 31)) w1) :
    w1.heap[w.heap.size]? = some (.cells #[.int .i64 0, .int .i64 0, .string ⟨#[]⟩, .slice none 0 0, .slice none 0 0] 31 (0, 0)) ∧ Kept b w w1 ∧ w.heap.size ≠ b ∧ w0.heap.size ≤ w.heap.size := by
  have hlt := lt_of_heap R.rd
  refine ⟨(K.block w.heap.size (by simp) (by omega)).trans (heap_alloc_new w _), (Kept.of_below ((Below.refl _ _).alloc (Nat.le_refl _) _)).trans K, by omega, R.below.size⟩

/-- a value without parts is answered. -/
theorem Ans.leaf {w0 w w1 : World} {b k : Nat} {s : ByteArray} (R : Rd w0 b s k w1) (K : Kept b w w1) (hne : w.heap.size ≠ b) (hle : w0.heap.size ≤ w.heap.size) (kd m : Int) (t : ByteArray) {r : Except Int (V × List UInt8)} (hr : r = .ok (⟨kd, m, t, [], []⟩, s.data.toList.drop k)) (i0 i1 i2 i3 i4 : Nat) (a0 a1 a2 a3 a4 : Value) :
    Ans w0 b s 0 w r (.returned (.tuple #[.agg #[.int .i64 kd, .int .i64 m, .string t, .slice none 0 0, .slice none 0 0], .nilIface])) (set5W w1 w.heap.size i0 i1 i2 i3 i4 a0 a1 a2 a3 a4) := by
  subst hr
  exact ⟨K.set5 (Nat.le_refl _) _ _ _ _ _ _ _ _ _ _, _, _, rfl, ⟨rfl, rfl, rfl, rfl⟩, k, R.set5 hne hle _ _ _ _ _ _ _ _ _ _, rfl⟩
/-- an error is answered. -/
theorem Ans.err {w0 w w1 : World} {b n : Nat} {s : ByteArray} {c : Int} {x : Value} (hx : Flt c w1 x) (K : Kept b w w1) (r0 : w1.heap[w.heap.size]? = some (.cells #[.int .i64 0, .int .i64 0, .string ⟨#[]⟩, .slice none 0 0, .slice none 0 0] 31 (0, 0))) {r : Except Int (V × List UInt8)} (hr : r = .error c) (i0 i1 i2 i3 i4 : Nat) (a0 a1 a2 a3 a4 : Value) :
    Ans w0 b s n w r (.returned (.tuple #[zeroA, x])) (set5W w1 w.heap.size i0 i1 i2 i3 i4 a0 a1 a2 a3 a4) := by
  subst hr
  exact ⟨K.set5 (Nat.le_refl _) _ _ _ _ _ _ _ _ _ _, x, rfl, hx.set5 r0 (by decide) _ _ _ _ _ _ _ _ _ _⟩

theorem wordRow2 {w w1 w2 : World} {b : Nat} {o : Obj} (K1 : Kept b w w1) (h : w1.heap[w.heap.size]? = some o) (K2 : Kept b w1 w2) (hne : w.heap.size ≠ b) : w2.heap[w.heap.size]? = some o ∧ Kept b w w2 :=
  ⟨(K2.block _ (lt_of_heap h) hne).trans h, K1.trans K2⟩

set_option maxHeartbeats 4000000 in
theorem word_any {w0 w : World} {b k : Nat} {s : ByteArray} (R : Rd w0 b s k w) :
    Calls Tryz.prog 49 #[.pointer (some ⟨b, 0, none⟩)] w (Ans w0 b s 0 w (wordP (s.data.toList.drop k))) := by
  have hB : Below w.heap.size w (w.alloc (.cells #[.int .i64 0, .int .i64 0, .string ⟨#[]⟩, .slice none 0 0, .slice none 0 0] 31)) := (Below.refl _ _).alloc (Nat.le_refl _) _
  have R1 := R.same hB
  obtain ⟨p1, h1⟩ : ∃ p, Lib.hasPrefix (s.data.toList.drop k) (⟨#[110, 117, 108, 108]⟩ : ByteArray).data.toList = p := ⟨_, rfl⟩
  obtain ⟨p2, h2⟩ : ∃ p, Lib.hasPrefix (s.data.toList.drop k) (⟨#[102, 97, 108, 115, 101]⟩ : ByteArray).data.toList = p := ⟨_, rfl⟩
  obtain ⟨p3, h3⟩ : ∃ p, Lib.hasPrefix (s.data.toList.drop k) (⟨#[116, 114, 117, 101]⟩ : ByteArray).data.toList = p := ⟨_, rfl⟩
  have hc1 := take_any R1 ⟨#[110, 117, 108, 108]⟩ (by decide) h1
  obtain ⟨RR, hRR⟩ : ∃ r, wordP (s.data.toList.drop k) = r := ⟨_, rfl⟩
  have HW := (show Hid _ from And.intro h1 (And.intro h2 (And.intro h3 hRR)))
  have HR0 := (show Hid _ from R)
  rw [hRR]
  clear h1 R hB R1 hRR h2 h3
  go_enter Tryz.func49, Tryz.ntmps49
  go_wp2_with fail
  refine hc1.mono ?_
  rintro e w1 ⟨rfl, K1, R1⟩
  obtain ⟨r0, K1', hne, hle⟩ := wordRow HR0.out K1
  cases p1
  · simp only [Bool.false_eq_true, if_false] at R1
    have hc2 := take_any R1 ⟨#[102, 97, 108, 115, 101]⟩ (by decide) HW.out.2.1
    clear hc1 R1 K1
    go_wp2_with fail
    refine hc2.mono ?_
    rintro e w2 ⟨rfl, K2, R2⟩
    obtain ⟨r2, K2'⟩ := wordRow2 K1' r0 K2 hne
    cases p2
    · simp only [Bool.false_eq_true, if_false] at R2
      have hc3 := take_any R2 ⟨#[116, 114, 117, 101]⟩ (by decide) HW.out.2.2.1
      clear hc2 R2 K1' r0 K2
      go_wp2_with fail
      refine hc3.mono ?_
      rintro e w3 ⟨rfl, K3, R3⟩
      obtain ⟨r3, K3'⟩ := wordRow2 K2' r2 K3 hne
      cases p3
      · simp only [Bool.false_eq_true, if_false] at R3
        have hc4 := wrongV_any R3 1 rfl
        clear hc3 K2' r2 K3
        go_wp2_with fail
        refine hc4.mono ?_
        rintro e w4 ⟨x, rfl, hx, hb4⟩
        obtain ⟨r4, K4'⟩ := wordRow2 K3' r3 (Kept.of_below hb4) hne
        obtain ⟨j0, j1, j2, j3, j4, jf⟩ := row5 r4
        obtain ⟨u, z, rfl⟩ := hx.iface
        have HX := (show Hid _ from And.intro hx (And.intro K4' r4))
        clear hc4 hx K4' r4 K3' r3 R3 hb4
        go_wp2
        obtain ⟨hx, K4', r4⟩ := HX.out
        obtain ⟨q1, q2, q3, hr⟩ := HW.out
        refine bodyPost_ret (v := .tuple #[zeroA, .iface u z]) (by simp [results, Tryz.results49, go_sem, j0, j1, j2, j3, j4]) rfl (Ans.err hx K4' r4 ?_ 0 1 2 3 4 _ _ _ _ _)
        rw [← hr]
        unfold wordP
        rw [if_neg (fun h => Bool.false_ne_true (q1.symm.trans h)), if_neg (fun h => Bool.false_ne_true (q2.symm.trans h)), if_neg (fun h => Bool.false_ne_true (q3.symm.trans h))]
      · obtain ⟨j0, j1, j2, j3, j4, jf⟩ := row5 r3
        have HX := (show Hid _ from And.intro R3 (And.intro K3' (And.intro hne hle)))
        clear R3 K3 K3' r3 hc3 hne hle K2' r2
        go_wp2
        obtain ⟨R1, K1', hne, hle⟩ := HX.out
        obtain ⟨q1, q2, q3, hr⟩ := HW.out
        refine bodyPost_ret (v := .tuple #[.agg #[.int .i64 1, .int .i64 1, .string ⟨#[]⟩, .slice none 0 0, .slice none 0 0], .nilIface]) (by simp [results, Tryz.results49, go_sem, j0, j1, j2, j3, j4]) rfl (Ans.leaf R1 K1' hne hle 1 1 ⟨#[]⟩ ?_ 0 1 2 3 4 _ _ _ _ _)
        rw [← hr]
        unfold wordP
        rw [if_neg (fun h => Bool.false_ne_true (q1.symm.trans h)), if_neg (fun h => Bool.false_ne_true (q2.symm.trans h)), if_pos q3, List.drop_drop]
        rfl
    · obtain ⟨j0, j1, j2, j3, j4, jf⟩ := row5 r2
      have HX := (show Hid _ from And.intro R2 (And.intro K2' (And.intro hne hle)))
      clear R2 K2 K2' r2 hc2 hne hle K1' r0
      go_wp2
      obtain ⟨R1, K1', hne, hle⟩ := HX.out
      obtain ⟨q1, q2, q3, hr⟩ := HW.out
      refine bodyPost_ret (v := .tuple #[.agg #[.int .i64 1, .int .i64 0, .string ⟨#[]⟩, .slice none 0 0, .slice none 0 0], .nilIface]) (by simp [results, Tryz.results49, go_sem, j0, j1, j2, j3, j4]) rfl (Ans.leaf R1 K1' hne hle 1 0 ⟨#[]⟩ ?_ 0 1 2 3 4 _ _ _ _ _)
      rw [← hr]
      unfold wordP
      rw [if_neg (fun h => Bool.false_ne_true (q1.symm.trans h)), if_pos q2, List.drop_drop]
      rfl
  · obtain ⟨j0, j1, j2, j3, j4, jf⟩ := row5 r0
    have HX := (show Hid _ from And.intro R1 (And.intro K1' (And.intro hne hle)))
    clear R1 K1 K1' r0 hc1 hne hle
    go_wp2
    obtain ⟨R1, K1', hne, hle⟩ := HX.out
    obtain ⟨q1, q2, q3, hr⟩ := HW.out
    refine bodyPost_ret (v := .tuple #[zeroA, .nilIface]) (by simp [results, Tryz.results49, go_sem, j0, j1, j2, j3, j4]) rfl (Ans.leaf R1 K1' hne hle 0 0 ⟨#[]⟩ ?_ 0 1 2 3 4 _ _ _ _ _)
    rw [← hr]
    unfold wordP
    rw [if_pos q1, List.drop_drop]
    rfl
end Go.Proofs.YtnkoblhdbccbeaaGreatDoor

namespace Go.Proofs.YtnkoblhdbccbeaaGreatDoor
open Go.RowKit Go.Extern.Stop Go.Stop Go.Extern

theorem control8 (w : World) : Calls Tryz.prog 113 #[.string ⟨#[8, 9, 10, 12, 13]⟩, .int .u8 8] w fun e w' => e = .returned (.int .i64 0) ∧ w' = w := Tryz.strings_IndexByte ⟨#[8, 9, 10, 12, 13]⟩ 8 w
theorem control9 (w : World) : Calls Tryz.prog 113 #[.string ⟨#[8, 9, 10, 12, 13]⟩, .int .u8 9] w fun e w' => e = .returned (.int .i64 1) ∧ w' = w := Tryz.strings_IndexByte ⟨#[8, 9, 10, 12, 13]⟩ 9 w
theorem control10 (w : World) : Calls Tryz.prog 113 #[.string ⟨#[8, 9, 10, 12, 13]⟩, .int .u8 10] w fun e w' => e = .returned (.int .i64 2) ∧ w' = w := Tryz.strings_IndexByte ⟨#[8, 9, 10, 12, 13]⟩ 10 w
theorem control12 (w : World) : Calls Tryz.prog 113 #[.string ⟨#[8, 9, 10, 12, 13]⟩, .int .u8 12] w fun e w' => e = .returned (.int .i64 3) ∧ w' = w := Tryz.strings_IndexByte ⟨#[8, 9, 10, 12, 13]⟩ 12 w
theorem control13 (w : World) : Calls Tryz.prog 113 #[.string ⟨#[8, 9, 10, 12, 13]⟩, .int .u8 13] w fun e w' => e = .returned (.int .i64 4) ∧ w' = w := Tryz.strings_IndexByte ⟨#[8, 9, 10, 12, 13]⟩ 13 w
theorem quoteFirst_8 (b : Nat) (l : List UInt8) (s : ByteArray) (hz : 0 < s.size) (h : (s[0]'hz).toNat = 8) (w : World) (hb : Bld b l w) (hl : l.length + 16 ≤ 140737488355328) :
    Calls Tryz.prog 94 #[.pointer (some ⟨b, 0, none⟩), .string s] w fun e w' => e = .returned (.int .i64 1) ∧ Bld b (l ++ [92, 98]) w' ∧ Below b w w' := by
  have z1 : (0 : Int) < (s.size : Int) := by omega
  have HL : Hid (l.length + 16 ≤ 140737488355328) := hl
  clear hl
  have c0 : (⟨#[98, 116, 110, 102, 114]⟩ : ByteArray)[0]'(by decide) = 98 := rfl
  go_enter Tryz.func94, Tryz.ntmps94
  go_wp2_with fail
  refine (control8 _).mono ?_
  rintro e w0 ⟨rfl, rfl⟩
  go_wp2_with fail
  refine (writeByte b l 92 _ hb (by have := HL.out; omega)).mono ?_
  rintro e w1 ⟨rfl, hb1, hB1⟩
  go_wp2_with fail
  refine (writeByte b _ 98 _ hb1 (by have := HL.out; simp; omega)).mono ?_
  rintro e w2 ⟨rfl, hb2, hB2⟩
  go_wp2
  go_ret
  exact ⟨rfl, by simpa using hb2, hB1.trans hB2⟩
theorem quoteFirst_9 (b : Nat) (l : List UInt8) (s : ByteArray) (hz : 0 < s.size) (h : (s[0]'hz).toNat = 9) (w : World) (hb : Bld b l w) (hl : l.length + 16 ≤ 140737488355328) :
    Calls Tryz.prog 94 #[.pointer (some ⟨b, 0, none⟩), .string s] w fun e w' => e = .returned (.int .i64 1) ∧ Bld b (l ++ [92, 116]) w' ∧ Below b w w' := by
  have z1 : (0 : Int) < (s.size : Int) := by omega
  have HL : Hid (l.length + 16 ≤ 140737488355328) := hl
  clear hl
  have c0 : (⟨#[98, 116, 110, 102, 114]⟩ : ByteArray)[1]'(by decide) = 116 := rfl
  go_enter Tryz.func94, Tryz.ntmps94
  go_wp2_with fail
  refine (control9 _).mono ?_
  rintro e w0 ⟨rfl, rfl⟩
  go_wp2_with fail
  refine (writeByte b l 92 _ hb (by have := HL.out; omega)).mono ?_
  rintro e w1 ⟨rfl, hb1, hB1⟩
  go_wp2_with fail
  refine (writeByte b _ 116 _ hb1 (by have := HL.out; simp; omega)).mono ?_
  rintro e w2 ⟨rfl, hb2, hB2⟩
  go_wp2
  go_ret
  exact ⟨rfl, by simpa using hb2, hB1.trans hB2⟩
theorem quoteFirst_10 (b : Nat) (l : List UInt8) (s : ByteArray) (hz : 0 < s.size) (h : (s[0]'hz).toNat = 10) (w : World) (hb : Bld b l w) (hl : l.length + 16 ≤ 140737488355328) :
    Calls Tryz.prog 94 #[.pointer (some ⟨b, 0, none⟩), .string s] w fun e w' => e = .returned (.int .i64 1) ∧ Bld b (l ++ [92, 110]) w' ∧ Below b w w' := by
  have z1 : (0 : Int) < (s.size : Int) := by omega
  have HL : Hid (l.length + 16 ≤ 140737488355328) := hl
  clear hl
  have c0 : (⟨#[98, 116, 110, 102, 114]⟩ : ByteArray)[2]'(by decide) = 110 := rfl
  go_enter Tryz.func94, Tryz.ntmps94
  go_wp2_with fail
  refine (control10 _).mono ?_
  rintro e w0 ⟨rfl, rfl⟩
  go_wp2_with fail
  refine (writeByte b l 92 _ hb (by have := HL.out; omega)).mono ?_
  rintro e w1 ⟨rfl, hb1, hB1⟩
  go_wp2_with fail
  refine (writeByte b _ 110 _ hb1 (by have := HL.out; simp; omega)).mono ?_
  rintro e w2 ⟨rfl, hb2, hB2⟩
  go_wp2
  go_ret
  exact ⟨rfl, by simpa using hb2, hB1.trans hB2⟩
theorem quoteFirst_12 (b : Nat) (l : List UInt8) (s : ByteArray) (hz : 0 < s.size) (h : (s[0]'hz).toNat = 12) (w : World) (hb : Bld b l w) (hl : l.length + 16 ≤ 140737488355328) :
    Calls Tryz.prog 94 #[.pointer (some ⟨b, 0, none⟩), .string s] w fun e w' => e = .returned (.int .i64 1) ∧ Bld b (l ++ [92, 102]) w' ∧ Below b w w' := by
  have z1 : (0 : Int) < (s.size : Int) := by omega
  have HL : Hid (l.length + 16 ≤ 140737488355328) := hl
  clear hl
  have c0 : (⟨#[98, 116, 110, 102, 114]⟩ : ByteArray)[3]'(by decide) = 102 := rfl
  go_enter Tryz.func94, Tryz.ntmps94
  go_wp2_with fail
  refine (control12 _).mono ?_
  rintro e w0 ⟨rfl, rfl⟩
  go_wp2_with fail
  refine (writeByte b l 92 _ hb (by have := HL.out; omega)).mono ?_
  rintro e w1 ⟨rfl, hb1, hB1⟩
  go_wp2_with fail
  refine (writeByte b _ 102 _ hb1 (by have := HL.out; simp; omega)).mono ?_
  rintro e w2 ⟨rfl, hb2, hB2⟩
  go_wp2
  go_ret
  exact ⟨rfl, by simpa using hb2, hB1.trans hB2⟩
theorem quoteFirst_13 (b : Nat) (l : List UInt8) (s : ByteArray) (hz : 0 < s.size) (h : (s[0]'hz).toNat = 13) (w : World) (hb : Bld b l w) (hl : l.length + 16 ≤ 140737488355328) :
    Calls Tryz.prog 94 #[.pointer (some ⟨b, 0, none⟩), .string s] w fun e w' => e = .returned (.int .i64 1) ∧ Bld b (l ++ [92, 114]) w' ∧ Below b w w' := by
  have z1 : (0 : Int) < (s.size : Int) := by omega
  have HL : Hid (l.length + 16 ≤ 140737488355328) := hl
  clear hl
  have c0 : (⟨#[98, 116, 110, 102, 114]⟩ : ByteArray)[4]'(by decide) = 114 := rfl
  go_enter Tryz.func94, Tryz.ntmps94
  go_wp2_with fail
  refine (control13 _).mono ?_
  rintro e w0 ⟨rfl, rfl⟩
  go_wp2_with fail
  refine (writeByte b l 92 _ hb (by have := HL.out; omega)).mono ?_
  rintro e w1 ⟨rfl, hb1, hB1⟩
  go_wp2_with fail
  refine (writeByte b _ 114 _ hb1 (by have := HL.out; simp; omega)).mono ?_
  rintro e w2 ⟨rfl, hb2, hB2⟩
  go_wp2
  go_ret
  exact ⟨rfl, by simpa using hb2, hB1.trans hB2⟩
theorem quoteFirst_34 (b : Nat) (l : List UInt8) (s : ByteArray) (hz : 0 < s.size) (h : (s[0]'hz).toNat = 34) (w : World) (hb : Bld b l w) (hl : l.length + 16 ≤ 140737488355328) :
    Calls Tryz.prog 94 #[.pointer (some ⟨b, 0, none⟩), .string s] w fun e w' => e = .returned (.int .i64 1) ∧ Bld b (l ++ [92, 34]) w' ∧ Below b w w' := by
  have z1 : (0 : Int) < (s.size : Int) := by omega
  have HL : Hid (l.length + 16 ≤ 140737488355328) := hl
  clear hl
  go_enter Tryz.func94, Tryz.ntmps94
  go_wp2_with fail
  refine (writeByte b l 92 _ hb (by have := HL.out; omega)).mono ?_
  rintro e w1 ⟨rfl, hb1, hB1⟩
  go_wp2_with fail
  refine (writeByte b _ 34 _ hb1 (by have := HL.out; simp; omega)).mono ?_
  rintro e w2 ⟨rfl, hb2, hB2⟩
  go_wp2
  go_ret
  exact ⟨rfl, by simpa using hb2, hB1.trans hB2⟩
theorem quoteFirst_92 (b : Nat) (l : List UInt8) (s : ByteArray) (hz : 0 < s.size) (h : (s[0]'hz).toNat = 92) (w : World) (hb : Bld b l w) (hl : l.length + 16 ≤ 140737488355328) :
    Calls Tryz.prog 94 #[.pointer (some ⟨b, 0, none⟩), .string s] w fun e w' => e = .returned (.int .i64 1) ∧ Bld b (l ++ [92, 92]) w' ∧ Below b w w' := by
  have z1 : (0 : Int) < (s.size : Int) := by omega
  have HL : Hid (l.length + 16 ≤ 140737488355328) := hl
  clear hl
  go_enter Tryz.func94, Tryz.ntmps94
  go_wp2_with fail
  refine (writeByte b l 92 _ hb (by have := HL.out; omega)).mono ?_
  rintro e w1 ⟨rfl, hb1, hB1⟩
  go_wp2_with fail
  refine (writeByte b _ 92 _ hb1 (by have := HL.out; simp; omega)).mono ?_
  rintro e w2 ⟨rfl, hb2, hB2⟩
  go_wp2
  go_ret
  exact ⟨rfl, by simpa using hb2, hB1.trans hB2⟩
theorem digs_at : ∀ (i : Fin 16), (⟨#[48, 49, 50, 51, 52, 53, 54, 55, 56, 57, 97, 98, 99, 100, 101, 102]⟩ : ByteArray)[i.val]'(i.isLt) = hexd i.val := by decide +kernel
theorem quoteFirst_low (b : Nat) (l : List UInt8) (s : ByteArray) (hz : 0 < s.size) (c : Int) (hc : (((s[0]'hz).toNat : Nat) : Int) = c) (_k0 : 0 ≤ c) (k1 : c < 32) (f1 : (c == 8) = false) (f2 : (c == 9) = false) (f3 : (c == 10) = false) (f4 : (c == 12) = false) (f5 : (c == 13) = false) (w : World) (hb : Bld b l w) (hl : l.length + 16 ≤ 140737488355328) :
    Calls Tryz.prog 94 #[.pointer (some ⟨b, 0, none⟩), .string s] w fun e w' => e = .returned (.int .i64 1) ∧ Bld b (l ++ [92, 117, 48, 48, hexd (c / 16).toNat, hexd (c % 16).toNat]) w' ∧ Below b w w' := by
  have z1 : (0 : Int) < (s.size : Int) := by omega
  have HL : Hid (l.length + 16 ≤ 140737488355328) := hl
  have f6 : (c == 34) = false := by simp; omega
  have f7 : (c == 92) = false := by simp; omega
  have g1 : 0 ≤ c / 16 := by omega
  have g2 : c / 16 < 16 := by omega
  have g3 : 0 ≤ c % 16 := by omega
  have g4 : c % 16 < 16 := by omega
  clear hl
  go_enter Tryz.func94, Tryz.ntmps94
  go_wp2_with fail
  refine (writeString b l _ [92, 117, 48, 48] rfl _ hb (by have := HL.out; simp; omega)).mono ?_
  rintro e w1 ⟨rfl, hb1, hB1⟩
  go_wp2_with fail
  refine (writeByte b _ _ _ hb1 (by have := HL.out; simp; omega)).mono ?_
  rintro e w2 ⟨rfl, hb2, hB2⟩
  go_wp2_with fail
  refine (writeByte b _ _ _ hb2 (by have := HL.out; simp; omega)).mono ?_
  rintro e w3 ⟨rfl, hb3, hB3⟩
  go_wp2
  go_ret
  refine ⟨rfl, ?_, (hB1.trans hB2).trans hB3⟩
  have e1 := digs_at ⟨(c / 16).toNat, by omega⟩
  have e2 := digs_at ⟨(c % 16).toNat, by omega⟩
  simp only at e1 e2
  rw [e1, e2] at hb3
  simpa using hb3
theorem quoteFirst_broken (b : Nat) (l : List UInt8) (s : ByteArray) (hz : 0 < s.size) (c : Int) (hc : (((s[0]'hz).toNat : Nat) : Int) = c) (k1 : ¬ c < 32) (f6 : (c == 34) = false) (f7 : (c == 92) = false) (hbk : brk s.data.toList) (w : World) (hT : TTabs w) (hb : Bld b l w) (hl : l.length + 16 ≤ 140737488355328) :
    Calls Tryz.prog 94 #[.pointer (some ⟨b, 0, none⟩), .string s] w fun e w' => e = .returned (.int .i64 1) ∧ Bld b (l ++ [92, 117, 102, 102, 102, 100]) w' ∧ Below b w w' := by
  have z1 : (0 : Int) < (s.size : Int) := by omega
  have HL : Hid (l.length + 16 ≤ 140737488355328) := hl
  have f1 : (c == 8) = false := by simp; omega
  have f2 : (c == 9) = false := by simp; omega
  have f3 : (c == 10) = false := by simp; omega
  have f4 : (c == 12) = false := by simp; omega
  have f5 : (c == 13) = false := by simp; omega
  have hne : s.data.toList ≠ [] := by
    intro h
    have := size_list h
    rw [List.length_nil] at this
    omega
  have hD := decode_any s hne w hT
  have hB := broken_dec s.data.toList
  rw [decide_eq_true hbk] at hB
  generalize hr : ((Lib.decodeL s.data.toList).1 : Int) = r at *
  generalize hn : ((Lib.decodeL s.data.toList).2 : Int) = n at *
  clear hr hn hl hbk
  go_enter Tryz.func94, Tryz.ntmps94
  go_wp2_with fail
  refine hD.mono ?_
  rintro e w1 ⟨rfl, hb1⟩
  go_wp2_with fail
  refine (hB _).mono ?_
  rintro e w' ⟨rfl, rfl⟩
  go_wp2_with fail
  refine (writeString b l _ [92, 117, 102, 102, 102, 100] rfl _ (hb.below hb1) (by have := HL.out; simp; omega)).mono ?_
  rintro e w2 ⟨rfl, hb2, hB2⟩
  go_wp2
  go_ret
  exact ⟨rfl, hb2, (hb1.mono (Nat.le_of_lt hb.lt)).trans hB2⟩
theorem quoteFirst_plain (b : Nat) (l : List UInt8) (s : ByteArray) (hz : 0 < s.size) (c : Int) (hc : (((s[0]'hz).toNat : Nat) : Int) = c) (k1 : ¬ c < 32) (f6 : (c == 34) = false) (f7 : (c == 92) = false) (hbk : ¬ brk s.data.toList) (w : World) (hT : TTabs w) (hb : Bld b l w) (hl : l.length + 16 ≤ 140737488355328) :
    Calls Tryz.prog 94 #[.pointer (some ⟨b, 0, none⟩), .string s] w fun e w' => e = .returned (.int .i64 ((Lib.decodeL s.data.toList).2 : Int)) ∧ Bld b (l ++ s.data.toList.take (Lib.decodeL s.data.toList).2) w' ∧ Below b w w' := by
  have z1 : (0 : Int) < (s.size : Int) := by omega
  have HL : Hid (l.length + 16 ≤ 140737488355328) := hl
  have f1 : (c == 8) = false := by simp; omega
  have f2 : (c == 9) = false := by simp; omega
  have f3 : (c == 10) = false := by simp; omega
  have f4 : (c == 12) = false := by simp; omega
  have f5 : (c == 13) = false := by simp; omega
  have hne : s.data.toList ≠ [] := by
    intro h
    have := size_list h
    rw [List.length_nil] at this
    omega
  have hD := decode_any s hne w hT
  have hB := broken_dec s.data.toList
  rw [decide_eq_false hbk] at hB
  have hle := Lib.decodeL_le s.data.toList hne
  rw [← size_list rfl] at hle
  have h4 : (Lib.decodeL s.data.toList).2 ≤ 4 := by
    rcases shapes _ hne with ⟨a, t', e', ha, ed⟩ | ⟨a, b', t', e', c1, c3, cv, ed⟩ | ⟨a, b', c, t', e', c1, c3, c4, cv, cs, ed⟩ | ⟨a, b', c, d, t', e', c1, c3, c4, c5, cv, cw, ed⟩ | ⟨h, ed, _⟩
    all_goals (rw [ed]; exact Nat.le_of_ble_eq_true rfl)
  generalize hr : ((Lib.decodeL s.data.toList).1 : Int) = r at *
  generalize hn : (Lib.decodeL s.data.toList).2 = n at *
  have zn : (n : Int) ≤ (s.size : Int) := by omega
  have ht : (s.extract 0 n).data.toList = s.data.toList.take n := by
    rw [ByteArray.data_extract, Array.toList_extract, List.extract_eq_take_drop]; simp
  clear hr hn hl hbk
  go_enter Tryz.func94, Tryz.ntmps94
  go_wp2_with fail
  refine hD.mono ?_
  rintro e w1 ⟨rfl, hb1⟩
  go_wp2_with fail
  refine (hB _).mono ?_
  rintro e w' ⟨rfl, rfl⟩
  go_wp2_with fail
  refine (writeString b l _ (s.data.toList.take n) ht _ (hb.below hb1) (by have := HL.out; rw [List.length_take]; omega)).mono ?_
  rintro e w2 ⟨rfl, hb2, hB2⟩
  go_wp2
  go_ret
  exact ⟨rfl, hb2, (hb1.mono (Nat.le_of_lt hb.lt)).trans hB2⟩

theorem dec_high (b : UInt8) (t : List UInt8) (h : 128 ≤ b.toNat) : 128 ≤ (Lib.decodeL (b :: t)).1 := by
  rcases shapes (b :: t) (by simp) with ⟨a, t', e', ha, ed⟩ | ⟨a, b', t', e', c1, c3, cv, ed⟩ | ⟨a, b', c, t', e', c1, c3, c4, cv, cs, ed⟩ | ⟨a, b', c, d, t', e', c1, c3, c4, c5, cv, cw, ed⟩ | ⟨_, ed, _⟩
  · cases e'; omega
  · rw [ed]; simp only; omega
  · rw [ed]; simp only; omega
  · rw [ed]; simp only; omega
  · rw [ed]; decide

theorem quoteFirst_any (b : Nat) (l : List UInt8) (s : ByteArray) (hne : s.data.toList ≠ []) (w : World) (hT : TTabs w) (hb : Bld b l w) (hl : l.length + 16 ≤ 140737488355328) :
    Calls Tryz.prog 94 #[.pointer (some ⟨b, 0, none⟩), .string s] w fun e w' => e = .returned (.int .i64 ((Lib.decodeL s.data.toList).2 : Int)) ∧ Bld b (l ++ esc s.data.toList) w' ∧ Below b w w' := by
  obtain ⟨x, t, e⟩ : ∃ x t, s.data.toList = x :: t := by
    cases h : s.data.toList with
    | nil => exact absurd h hne
    | cons x t => exact ⟨x, t, rfl⟩
  have hz : 0 < s.size := by rw [size_list e]; simp
  have i0 := byte_at e 0 hz x rfl
  have en : (((s[0]'hz).toNat : Nat) : Int) = (x.toNat : Int) := by rw [i0]
  by_cases ha : x.toNat < 128
  · have ed : Lib.decodeL s.data.toList = (x.toNat, 1) := by rw [e]; exact decE x t ha
    have nb : ¬ brk s.data.toList := by rw [e]; exact nbrk_ascii x t ha
    have e2 : ((Lib.decodeL s.data.toList).2 : Int) = 1 := by rw [ed]; rfl
    unfold esc
    rw [if_neg nb]
    by_cases h8 : x.toNat = 8
    · rw [if_pos (by rw [ed]; exact h8), e2]; exact quoteFirst_8 b l s hz (by rw [i0]; exact h8) w hb hl
    · rw [if_neg (by rw [ed]; exact h8)]
      by_cases h9 : x.toNat = 9
      · rw [if_pos (by rw [ed]; exact h9), e2]; exact quoteFirst_9 b l s hz (by rw [i0]; exact h9) w hb hl
      · rw [if_neg (by rw [ed]; exact h9)]
        by_cases h10 : x.toNat = 10
        · rw [if_pos (by rw [ed]; exact h10), e2]; exact quoteFirst_10 b l s hz (by rw [i0]; exact h10) w hb hl
        · rw [if_neg (by rw [ed]; exact h10)]
          by_cases h12 : x.toNat = 12
          · rw [if_pos (by rw [ed]; exact h12), e2]; exact quoteFirst_12 b l s hz (by rw [i0]; exact h12) w hb hl
          · rw [if_neg (by rw [ed]; exact h12)]
            by_cases h13 : x.toNat = 13
            · rw [if_pos (by rw [ed]; exact h13), e2]; exact quoteFirst_13 b l s hz (by rw [i0]; exact h13) w hb hl
            · rw [if_neg (by rw [ed]; exact h13)]
              by_cases h32 : x.toNat < 32
              · rw [if_pos (by rw [ed]; exact h32), e2, ed]
                have := quoteFirst_low b l s hz _ en (by omega) (by omega) (by simp; omega) (by simp; omega) (by simp; omega) (by simp; omega) (by simp; omega) w hb hl
                have q1 : ((x.toNat : Int) / 16).toNat = x.toNat / 16 := by omega
                have q2 : ((x.toNat : Int) % 16).toNat = x.toNat % 16 := by omega
                rw [q1, q2] at this
                exact this
              · rw [if_neg (by rw [ed]; exact h32)]
                by_cases hq : x.toNat = 34 ∨ x.toNat = 92
                · rw [if_pos (by rw [ed]; exact hq), e2, ed]
                  rcases hq with hq | hq
                  · simp only [hq]; exact quoteFirst_34 b l s hz (by rw [i0]; exact hq) w hb hl
                  · simp only [hq]; exact quoteFirst_92 b l s hz (by rw [i0]; exact hq) w hb hl
                · rw [if_neg (by rw [ed]; exact hq)]
                  exact quoteFirst_plain b l s hz _ en (by omega) (by simp; omega) (by simp; omega) nb w hT hb hl
  · have hh : 128 ≤ (Lib.decodeL s.data.toList).1 := by rw [e]; exact dec_high x t (by omega)
    unfold esc
    by_cases nb : brk s.data.toList
    · rw [if_pos nb, nb.2]
      exact quoteFirst_broken b l s hz _ en (by omega) (by simp; omega) (by simp; omega) nb w hT hb hl
    · rw [if_neg nb, if_neg (by omega), if_neg (by omega), if_neg (by omega), if_neg (by omega), if_neg (by omega), if_neg (by omega), if_neg (by omega)]
      exact quoteFirst_plain b l s hz _ en (by omega) (by simp; omega) (by simp; omega) nb w hT hb hl

theorem esc_length (l : List UInt8) (_hne : l ≠ []) : (esc l).length ≤ 6 * (Lib.decodeL l).2 := by
  have hw := Lib.decodeL_width l
  rcases esc_forms l with ⟨hb, e⟩ | ⟨x, e, _, _, h⟩ | ⟨h, e⟩ | ⟨hb, h32, _, h92, e⟩
  · rw [e]; simp; omega
  · rw [e]; simp; omega
  · rw [e]; simp; omega
  · rw [e, List.length_take]; omega
theorem quo_length : ∀ (n : Nat) (l : List UInt8), l.length ≤ n → (quo l).length ≤ 6 * l.length
  | n, l, hn => by
    by_cases hne : l = []
    · subst hne; simp [quo_nil]
    · have hlt := drop_lt l hne
      obtain ⟨m, rfl⟩ : ∃ m, n = m + 1 := ⟨n - 1, by omega⟩
      have h1 := quo_length m (l.drop (Lib.decodeL l).2) (by omega)
      have h2 := esc_length l hne
      have h3 := Lib.decodeL_le l hne
      rw [List.length_drop] at h1
      rw [quo_step l hne, List.length_append]
      omega

set_option maxHeartbeats 1000000 in
theorem Quote_any (s : ByteArray) (hs0 : s.size ≤ 1099511627776) (w : World) (hT : TTabs w) :
    Calls Tryz.prog 68 #[.string s] w fun e w' => e = .returned (.string ⟨(quoteL s.data.toList).toArray⟩) ∧ Below w.heap.size w w' := by
  have hq := quo_length _ s.data.toList (Nat.le_refl _)
  rw [← size_list rfl] at hq
  have HS : Hid ((quo s.data.toList).length + 100 ≤ 140737488355328) := by show _ ≤ _; omega
  clear hq hs0
  have hB0 : Below w.heap.size w (w.alloc (.cells #[.pointer none, .slice none 0 0] 72)) := (Below.refl _ _).alloc (Nat.le_refl _) _
  have hN := Bld.new w
  go_enter Tryz.func68, Tryz.ntmps68
  go_wp2_with fail
  refine (writeByte _ [] 34 _ hN (by simp)).mono ?_
  rintro e w1 ⟨rfl, hb1, hB1⟩
  have hB1' := hB0.trans hB1
  go_wp2_with fail
  go_loopw [0] (fun sv wr => ∃ (t : ByteArray) (o : List UInt8), sv = .string t ∧ Below w.heap.size w wr ∧ Bld w.heap.size o wr ∧ o ++ quo t.data.toList = 34 :: quo s.data.toList) (fun sv _ => match sv with | .string t => t.size | _ => 0)
  case atStart => exact ⟨s, [34], rfl, hB1', hb1, rfl⟩
  case round =>
    obtain ⟨t, o, rfl, hB, hbu, heq⟩ := hrel
    have HX : Hid (o ++ quo t.data.toList = 34 :: quo s.data.toList) := heq
    have hol : o.length + 50 ≤ 140737488355328 := by
      have := congrArg List.length heq
      have h2 := HS.out
      simp at this
      omega
    have HO : Hid (o.length + 50 ≤ 140737488355328) := hol
    clear heq hol
    by_cases hz : t.size = 0
    · have el : t.data.toList = [] := List.eq_nil_of_length_eq_zero (by rw [← size_list rfl]; exact hz)
      have HE : Hid (t.data.toList = []) := el
      have zi : ¬ (0 : Int) < (t.size : Int) := by omega
      clear el hz
      go_wp2_with fail
      refine (writeByte _ o 34 _ hbu (by have := HO.out; omega)).mono ?_
      rintro e w2 ⟨rfl, hb2, hB2⟩
      go_wp2_with fail
      refine (stringOf _ _ _ hb2).mono ?_
      rintro e w3 ⟨rfl, hB3⟩
      go_wp2
      go_ret
      refine ⟨?_, (hB.trans hB2).trans hB3⟩
      have := HX.out
      rw [HE.out, quo_nil, List.append_nil] at this
      rw [this]
      rfl
    · have hne : t.data.toList ≠ [] := by
        intro h
        exact hz (by rw [size_list h]; rfl)
      have zi : (0 : Int) < (t.size : Int) := by omega
      have hle := Lib.decodeL_le t.data.toList hne
      rw [← size_list rfl] at hle
      have hw := Lib.decodeL_width t.data.toList
      have zn : ((Lib.decodeL t.data.toList).2 : Int) ≤ (t.size : Int) := by omega
      have hX2 : (o ++ esc t.data.toList) ++ quo (t.data.toList.drop (Lib.decodeL t.data.toList).2) = 34 :: quo s.data.toList := by
        rw [List.append_assoc, ← quo_step _ hne]; exact HX.out
      have HX2 : Hid ((o ++ esc t.data.toList) ++ quo (t.data.toList.drop (Lib.decodeL t.data.toList).2) = 34 :: quo s.data.toList) := hX2
      have hq := quoteFirst_any w.heap.size o t hne wr (hT.below hB) hbu (by have := HO.out; omega)
      generalize esc t.data.toList = ex at *
      have hdl := drop_list (s := t) rfl (Lib.decodeL t.data.toList).2
      generalize hn : (Lib.decodeL t.data.toList).2 = n at *
      have HW : Hid (1 ≤ n ∧ n ≤ t.size) := ⟨hw, hle⟩
      have HDL : Hid ((t.extract n t.size).data.toList = t.data.toList.drop n) := hdl
      clear hn hw hle hX2 hdl hz
      go_wp2_with fail
      refine hq.mono ?_
      rintro e w2 ⟨rfl, hb2, hB2⟩
      go_wp2
      go_roundw
      case rel => exact ⟨_, o ++ ex, rfl, hB.trans hB2, hb2, by rw [HDL.out]; exact HX2.out⟩
      case measure => have := HW.out; simp; omega
end Go.Proofs.YtnkoblhdbccbeaaGreatDoor

namespace Go.Proofs.YtnkoblhdbccbeaaGreatDoor
open Go.RowKit Go.Extern.Stop Go.Stop Go.Extern

/-- a builder that holds bytes, made behind w0. -/
structure Wr (w0 : World) (b : Nat) (l : List UInt8) (w : World) : Prop where
  env : JEnv w0
  below : Below w0.heap.size w0 w
  le : w0.heap.size ≤ b
  bld : Bld b l w
theorem Wr.now {w0 w : World} {b : Nat} {l : List UInt8} (h : Wr w0 b l w) : JEnv w := h.env.below h.below
theorem Wr.same {w0 w w' : World} {b : Nat} {l : List UInt8} (h : Wr w0 b l w) (hb : Below w.heap.size w w') : Wr w0 b l w' :=
  ⟨h.env, h.below.trans (hb.mono h.below.size), h.le, h.bld.below hb⟩
/-- what writing leaves as it was. -/
structure OK5 (b : Nat) (w w' : World) : Prop where
  kept : Lib.OthersKept 5 (some b) w w'
theorem OK5.refl (b : Nat) (w : World) : OK5 b w w := ⟨Lib.OthersKept.refl _ _ _⟩
theorem OK5.trans {b : Nat} {x y z : World} (h : OK5 b x y) (k : OK5 b y z) : OK5 b x z := ⟨h.kept.trans k.kept⟩
theorem OK5.of_below {b : Nat} {w w' : World} (h : Below w.heap.size w w') : OK5 b w w' := ⟨fun k _ hk _ _ => (h.block k (lt_of_heap hk)).trans hk⟩
theorem OK5.row {b k T : Nat} {w w' : World} {cs : Array Value} (h : OK5 b w w') (hk : w.heap[k]? = some (.cells cs T (0, 0))) (hb : k ≠ b) (hT : T ≠ 5) : w'.heap[k]? = some (.cells cs T (0, 0)) :=
  h.kept k _ hk (fun e => hb (Option.some.inj e)) (fun c fz e => by cases e; exact hT rfl)

theorem put_byte {w0 w : World} {b : Nat} {l : List UInt8} (h : Wr w0 b l w) (x : UInt8) (hl : l.length + 1 ≤ 1000000000) :
    Calls Tryz.prog 93 #[.pointer (some ⟨b, 0, none⟩), .int .u8 (x.toNat : Int)] w fun e w' => e = .returned .nilIface ∧ Wr w0 b (l ++ [x]) w' ∧ OK5 b w w' := by
  refine (Tryz.Builder_WriteByte_k b b _ _ w h.bld (by rw [bytes_length]; omega) (Nat.le_of_lt h.bld.lt)).mono ?_
  rintro e w' ⟨rfl, h1, h2, h3⟩
  refine ⟨rfl, ⟨h.env, h.below.trans (h2.mono h.le), h.le, .inr ?_⟩, ⟨h3⟩⟩
  have e : Lib.byteCells (l ++ [x]) = Lib.byteCells l ++ [.int .u8 (x.toNat : Int)] := by simp [Lib.byteCells]
  rw [e]; exact h1
theorem put_string {w0 w : World} {b : Nat} {l : List UInt8} (h : Wr w0 b l w) (s : ByteArray) (m : List UInt8) (hs : s.data.toList = m) (hl : l.length + m.length ≤ 1000000000) :
    Calls Tryz.prog 65 #[.pointer (some ⟨b, 0, none⟩), .string s] w fun e w' => e = .returned (.tuple #[.int .i64 s.size, .nilIface]) ∧ Wr w0 b (l ++ m) w' ∧ OK5 b w w' := by
  refine (Tryz.Builder_WriteString_k b b _ _ w h.bld (by rw [bytes_length, size_list hs]; omega) (Nat.le_of_lt h.bld.lt)).mono ?_
  rintro e w' ⟨rfl, h1, h2, h3⟩
  refine ⟨rfl, ⟨h.env, h.below.trans (h2.mono h.le), h.le, .inr ?_⟩, ⟨h3⟩⟩
  have e : Lib.byteCells (l ++ m) = Lib.byteCells l ++ Lib.strCells s := by subst hs; simp [Lib.byteCells, Lib.strCells]
  rw [e]; exact h1

def cm (i : Nat) : List UInt8 := if i = 0 then [] else [44]
theorem comma_any {w0 w : World} {b : Nat} {l : List UInt8} (h : Wr w0 b l w) (i : Nat) (hi : i ≤ 1000000) (hl : l.length + 1 ≤ 1000000000) :
    Calls Tryz.prog 95 #[.pointer (some ⟨b, 0, none⟩), .int .i64 (i : Int)] w fun e w' => e = .returned (.tuple #[]) ∧ Wr w0 b (l ++ cm i) w' ∧ OK5 b w w' := by
  by_cases h0 : i = 0
  · subst h0
    have HW := (show Hid _ from h)
    clear h
    go_enter Tryz.func95, Tryz.ntmps95
    go_wp2_with fail
    refine bodyPost_end (v := .tuple #[]) (by simp [results, Tryz.results95, go_sem]) rfl ⟨rfl, ?_, OK5.refl _ _⟩
    show Wr w0 b (l ++ []) _
    rw [List.append_nil]
    exact HW.out
  · have z : (0 : Int) < (i : Int) := by omega
    have hp := put_byte h 44 hl
    have hcm : cm i = [44] := if_neg h0
    rw [hcm]
    clear h hcm
    go_enter Tryz.func95, Tryz.ntmps95
    go_wp2_with fail
    refine hp.mono ?_
    rintro e w1 ⟨rfl, h1, h2⟩
    go_wp2_with fail
    exact bodyPost_end (v := .tuple #[]) (by simp [results, Tryz.results95, go_sem]) rfl ⟨rfl, h1, h2⟩

theorem sepBy_snoc : ∀ (xs : List (List UInt8)) (y : List UInt8), sepBy (xs ++ [y]) = sepBy xs ++ (cm xs.length ++ y)
  | [], y => rfl
  | [x], y => by simp [sepBy, cm]
  | x :: x' :: r, y => by
    have ih := sepBy_snoc (x' :: r) y
    have e : cm (x :: x' :: r).length = cm (x' :: r).length := by simp [cm]
    rw [e]
    show x ++ 44 :: sepBy (x' :: r ++ [y]) = _
    rw [ih]
    simp [sepBy]
theorem sepBy_part : ∀ (xs ys : List (List UInt8)), (sepBy xs).length ≤ (sepBy (xs ++ ys)).length
  | [], ys => by simp [sepBy]
  | [x], [] => by simp
  | [x], y :: ys => by simp [sepBy]
  | x :: x' :: r, ys => by
    have ih := sepBy_part (x' :: r) ys
    show (x ++ 44 :: sepBy (x' :: r)).length ≤ (x ++ 44 :: sepBy (x' :: r ++ ys)).length
    rw [List.length_append, List.length_append, List.length_cons, List.length_cons]
    omega
theorem sepBy_take {xs : List (List UInt8)} {k : Nat} {y : List UInt8} (h : xs[k]? = some y) : sepBy (xs.take (k + 1)) = sepBy (xs.take k) ++ (cm k ++ y) := by
  have hlt := (List.getElem?_eq_some_iff.1 h).1
  have e : xs.take (k + 1) = xs.take k ++ [y] := by
    rw [List.take_add_one, h]; rfl
  rw [e, sepBy_snoc, List.length_take, Nat.min_eq_left (by omega)]
theorem sepBy_take_len (xs : List (List UInt8)) (k : Nat) : (sepBy (xs.take k)).length ≤ (sepBy xs).length := by
  have := sepBy_part (xs.take k) (xs.drop k)
  rwa [List.take_append_drop] at this

/-- a value that is printed whole. -/
def Fit : Nat → V → Prop
  | 0, v => I64 v.num ∧ v.text.size ≤ 1000000
  | n + 1, v => I64 v.num ∧ v.text.size ≤ 1000000 ∧ (∀ x ∈ v.list, Fit n x) ∧ ∀ p ∈ v.fields, p.1.size ≤ 1000000 ∧ Fit n p.2
theorem Fit.here {n : Nat} {v : V} (h : Fit n v) : I64 v.num ∧ v.text.size ≤ 1000000 := by
  cases n with
  | zero => exact h
  | succ n => exact ⟨h.1, h.2.1⟩
end Go.Proofs.YtnkoblhdbccbeaaGreatDoor
