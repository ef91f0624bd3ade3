/-
  The program's reader of JSON: lists. Conditions: as stated (texts of at most 4096 bytes).
  slices.Insert at fields that a caller owns, with room or without. Conditions: as stated.
-/
import Derived.Test.YtnkoblhdbccbeaaGreatDoorU13
import Derived.Test.YtnkoblhdbccbeaaGreatDoorU8
import Derived.Lib.Overlaps
import Derived.Deep.AppendLies
namespace Go.Proofs.YtnkoblhdbccbeaaGreatDoor
open Go.RowKit Go.Extern.Stop Go.Stop Go.Extern

theorem len_drop {s : ByteArray} {k : Nat} : (s.data.toList.drop k).length = s.size - k := by rw [List.length_drop, ← size_list (s := s) rfl]

theorem Ans.more {w0 W w' w'' : World} {b n : Nat} {s : ByteArray} {r : Except Int (V × List UInt8)} {e : Ending} (h : Ans w0 b s n W r e w') (hb : Below w'.heap.size w' w'') : Ans w0 b s n W r e w'' := by
  obtain ⟨K, h⟩ := h
  refine ⟨K.trans (Kept.of_below hb), ?_⟩
  cases r with
  | error c =>
    obtain ⟨x, e1, hx⟩ := h
    exact ⟨x, e1, hx.below hb⟩
  | ok r =>
    obtain ⟨l, f, e1, hr, k', R, hd⟩ := h
    exact ⟨l, f, e1, hr.below hb, k', R.same hb, hd⟩

theorem row_set5 {W : World} {B T : Nat} {x0 x1 x2 x3 x4 : Value} (h : W.heap[B]? = some (.cells #[x0, x1, x2, x3, x4] T (0, 0))) (a0 a1 a2 a3 a4 : Value) : (set5W W B 0 1 2 3 4 a0 a1 a2 a3 a4).heap[B]? = some (.cells #[a0, a1, a2, a3, a4] T (0, 0)) := by
  unfold set5W
  exact setCell_row (setCell_row (setCell_row (setCell_row (setCell_row h (i := 0) a0) (i := 1) a1) (i := 2) a2) (i := 3) a3) (i := 4) a4
/-- what is read of five cells that were written, behind one more block. -/
theorem cells_set5 {W : World} {B T : Nat} {x0 x1 x2 x3 x4 : Value} (h : W.heap[B]? = some (.cells #[x0, x1, x2, x3, x4] T (0, 0))) (o : Obj) (a0 a1 a2 a3 a4 : Value) :
    let W' := (((((W.setCell ⟨B, 0, none⟩ a0).setCell ⟨B, 1, none⟩ a1).setCell ⟨B, 2, none⟩ a2).setCell ⟨B, 3, none⟩ a3).setCell ⟨B, 4, none⟩ a4).alloc o
    W'.cell? ⟨B, 0, none⟩ = some a0 ∧ W'.cell? ⟨B, 1, none⟩ = some a1 ∧ W'.cell? ⟨B, 2, none⟩ = some a2 ∧ W'.cell? ⟨B, 3, none⟩ = some a3 ∧ W'.cell? ⟨B, 4, none⟩ = some a4 := by
  have hq := row5 (heap_alloc_old (o := o) (row_set5 h a0 a1 a2 a3 a4))
  exact ⟨hq.1, hq.2.1, hq.2.2.1, hq.2.2.2.1, hq.2.2.2.2.1⟩

/-- the list that is whole is answered. -/
theorem LSt.done {w0 w wr : World} {b n gg : Nat} {s : ByteArray} {r : Except Int (V × List UInt8)} {es : List El} {sl : Value} (h : LSt w0 b s n w r gg true es sl wr) (hb : b < w.heap.size) (i0 i1 i2 i3 i4 : Nat) (a0 a1 a2 a3 a4 : Value) :
    Ans w0 b s (n + 1) w r (.returned (.tuple #[.agg #[.int .i64 4, .int .i64 0, .string ⟨#[]⟩, sl, .slice none 0 0], .nilIface])) (set5W wr w.heap.size i0 i1 i2 i3 i4 a0 a1 a2 a3 a4) := by
  obtain ⟨k', R', hle, hr, _⟩ := h.st
  rw [hr rfl]
  have h0 : w0.heap.size ≤ w.heap.size := Nat.le_trans R'.le (Nat.le_of_lt hb)
  have hne : ∀ c, w.heap.size < c → (set5W wr w.heap.size i0 i1 i2 i3 i4 a0 a1 a2 a3 a4).heap[c]? = wr.heap[c]? := fun c hc => set5W_ne _ _ _ _ _ _ _ _ _ _ _ _ (by omega)
  have hG' := h.grows.move (W' := set5W wr w.heap.size i0 i1 i2 i3 i4 a0 a1 a2 a3 a4) fun c hc _ => hne c (by omega)
  have hk := R'.hk
  have hs := R'.hs
  refine ⟨h.kept.set5 (Nat.le_refl _) _ _ _ _ _ _ _ _ _ _, _, _, rfl, ⟨⟨es, rfl, ⟨ownsRow_move (fun c _ _ => ⟨Nat.zero_le _, rfl⟩) hG'.own, by omega, fun c hc => by have := (hG'.own.lt c hc).1; show w.heap.size ≤ c; omega⟩, fun e he => (hG'.rep e he).move fun c hc _ => ⟨by omega, rfl⟩⟩, ⟨[], rfl, RowAt.nil, fun e he => by cases he⟩⟩, k', R'.set5 (by omega) h0 _ _ _ _ _ _ _ _ _ _, rfl⟩

set_option maxRecDepth 100000 in
set_option maxHeartbeats 8000000 in
theorem list_any (n : Nat) (D : Int) (hD : 1 ≤ D) (hD2 : D ≤ 100) (ih : ValueAt n (D + 1)) {w0 w : World} {b k : Nat} {s : ByteArray} (R : Rd w0 b s k w) (h91 : hd (s.data.toList.drop k) = 91) :
    Calls Tryz.prog 47 #[.pointer (some ⟨b, 0, none⟩), .int .i64 D] w (Ans w0 b s (n + 1) w (listP (valueP n) ((s.data.toList.drop k).drop 1))) := by
  obtain ⟨RR, hRR⟩ : ∃ r, listP (valueP n) ((s.data.toList.drop k).drop 1) = r := ⟨_, rfl⟩
  rw [hRR]
  obtain ⟨O0, hO0⟩ : ∃ O, O = Obj.cells #[.int .i64 0, .int .i64 0, .string ⟨#[]⟩, .slice none 0 0, .slice none 0 0] 31 := ⟨_, rfl⟩
  obtain ⟨O1, hO1⟩ : ∃ O, O = Obj.cells #[.int .i64 4, .int .i64 0, .string ⟨#[]⟩, .slice none 0 0, .slice none 0 0] 31 := ⟨_, rfl⟩
  have hB2 : Below w.heap.size w ((w.alloc O0).alloc O1) := ((Below.refl _ _).alloc (Nat.le_refl _) _).alloc (by simp) _
  have hbw := lt_of_heap R.rd
  have R1 := R.same hB2
  have htk := take_one R1 91 (by decide) (p := true) (decide_eq_true h91)
  rw [hO0, hO1] at htk
  have HW := (show Hid _ from And.intro hRR (And.intro R (And.intro hO0 (And.intro hO1 (And.intro hB2 hbw)))))
  clear R1 R hRR hO0 hO1 hB2 h91
  obtain ⟨i0, hi, hz0, hz1, hz2⟩ := info_parts infoV
  go_enter Tryz.func47, Tryz.ntmps47
  go_wp2_with fail
  refine htk.mono ?_
  rintro e w1 ⟨rfl, K1, k1, R1, hd1⟩
  obtain ⟨p, hp⟩ : ∃ p, decide (hd (skip (s.data.toList.drop k1)) = (93 : UInt8).toNat) = p := ⟨_, rfl⟩
  have hmk := mark_one R1 93 (by decide) hp
  have HX := (show Hid _ from And.intro hp (And.intro K1 hd1))
  clear htk hp K1 hd1 R1
  go_wp2_with fail
  refine hmk.mono ?_
  rintro e w2 ⟨rfl, K2, k2, R2, hd2⟩
  have HY := (show Hid _ from And.intro K2 (And.intro R2 hd2))
  clear hmk K2 R2 hd2
  go_wp2_with fail
  go_loopg [7, 8, 9] (s.size + 1) (fun gg s7 _ _ wr => ∃ (p : Bool) (es : List El) (sl : Value), s7 = .bool p ∧ Aside (LSt w0 b s n w RR gg p es sl wr))
  case atStart =>
    obtain ⟨hp, K1, hd1⟩ := HX.out
    obtain ⟨K2, R2, hd2⟩ := HY.out
    obtain ⟨hr, R, hO0, hO1, hB2, hbw⟩ := HW.out
    have K : Kept b w w2 := (Kept.of_below hB2).trans (by rw [hO0, hO1]; exact K1.trans K2)
    have K12 : Kept b ((w.alloc O0).alloc O1) w2 := by rw [hO0, hO1]; exact K1.trans K2
    refine ⟨p, [], .slice none 0 0, rfl, K, ?_, ?_, ⟨World.ownsRow_nil _ _ _ _, fun e he => (by cases he)⟩, k2, R2, Nat.zero_le _, ?_, ?_⟩
    · rw [K12.block _ (by simp; omega) (by omega), heap_alloc2_old, hO0]
    · rw [K12.block _ (by simp) (by omega), heap_alloc2_new, hO1]
    · intro e
      subst e
      rw [← hr]
      unfold listP
      have hd1' : s.data.toList.drop k1 = (s.data.toList.drop k).drop 1 := hd1
      have hd2' : s.data.toList.drop k2 = (skip (s.data.toList.drop k1)).drop 1 := hd2
      rw [← hd1', if_pos (show hd (skip (s.data.toList.drop k1)) = 93 from of_decide_eq_true hp), hd2']
      rfl
    · intro e
      subst e
      refine ⟨by omega, (s.data.toList.drop k2).length + 1, by omega, ?_⟩
      rw [← hr]
      unfold listP
      have hd1' : s.data.toList.drop k1 = (s.data.toList.drop k).drop 1 := hd1
      have hd2' : s.data.toList.drop k2 = skip (s.data.toList.drop k1) := hd2
      rw [← hd1', if_neg (show ¬ hd (skip (s.data.toList.drop k1)) = 93 from of_decide_eq_false hp), hd2']
      rfl
  case round =>
    obtain ⟨p, es, sl, rfl, hL⟩ := hrel
    have L := hL.out
    obtain ⟨al, cl, rfl⟩ := ownsRow_slice L.grows.own
    have hbw := HW.out.2.2.2.2.2
    clear HX HY
    cases p
    · obtain ⟨k', R', hle, _, hst⟩ := L.st
      obtain ⟨hgg, m, hm, hr⟩ := hst rfl
      have hcall := ih w0 b s k' wr R'
      obtain ⟨rv, hrv⟩ : ∃ r, valueP n (s.data.toList.drop k') = r := ⟨_, rfl⟩
      rw [hrv] at hcall
      have HS := (show Hid _ from And.intro hrv (And.intro R' (And.intro hle (And.intro hgg (And.intro hm (And.intro hr L))))))
      clear ih hrv R' hle hgg hm hr L hL hst
      go_wp2_with fail
      refine hcall.mono ?_
      rintro e w1 ⟨K1, h1⟩
      clear hcall
      cases rv with
      | error c =>
        obtain ⟨x, rfl, hx⟩ := h1
        obtain ⟨hrv, R', hle, hgg, hm, hr, L⟩ := HS.out
        obtain ⟨r0, K0⟩ := wordRow2 L.kept L.row0 K1 (by omega)
        have hlt0 := lt_of_heap r0
        obtain ⟨j0, j1, j2, j3, j4, jf⟩ := row5 r0
        obtain ⟨u, z, rfl⟩ := hx.iface
        have HZ := (show Hid _ from And.intro hx (And.intro K0 r0))
        clear hx K0 r0 hrv R' hle hgg hm hr L K1
        go_wp2
        obtain ⟨hx, K0, r0⟩ := HZ.out
        obtain ⟨hrv, R', hle, hgg, hm, hr, L⟩ := HS.out
        obtain ⟨q0, q1, q2, q3, q4⟩ := cells_set5 r0 (.cells #[.int .i64 0, .int .i64 0, .string ⟨#[]⟩, .slice none 0 0, .slice none 0 0] 31) (.int .i64 0) (.int .i64 0) (.string ⟨#[]⟩) (.slice none 0 0) (.slice none 0 0)
        refine bodyPost_ret (v := .tuple #[zeroA, .iface u z]) (by simp [results, Tryz.results47, go_sem, q0, q1, q2, q3, q4]) rfl ((Ans.err hx K0 r0 ?_ 0 1 2 3 4 _ _ _ _ _).more ((Below.refl _ _).alloc (Nat.le_refl _) _))
        cases m with
        | zero => omega
        | succ m =>
          rw [hr]
          simp only [elemsP, hrv, lift]
      | ok rv =>
        obtain ⟨l, f, rfl, hrx, k1, R1, hd1⟩ := h1
        obtain ⟨hrv, R', hle, hgg, hm, hr, L⟩ := HS.out
        obtain ⟨bl, dl, bf, df, rfl, rfl⟩ := hrx.slices
        obtain ⟨x, rest⟩ := rv
        simp only at hrx hd1 ⊢
        have hG := L.grows
        have hlw : ∀ k, (Value.slice al es.length cl).ownBlock = some k → k < wr.heap.size := fun k e => (hG.own.lt k e).2
        obtain ⟨hrow0', K0⟩ := wordRow2 L.kept L.row0 K1 (by omega)
        have hrow1' := (K1.block _ (lt_of_heap L.row1) (by omega)).trans L.row1
        obtain ⟨k0, k1', k2, k3, k4, kf⟩ := row5 hrow1'
        have hz1' : w.heap.size + 1 < w1.heap.size := lt_of_heap hrow1'
        have hG1 : GrowsJ n w1 (w.heap.size + 1) (.slice al es.length cl) es := hG.move fun c hc hl => K1.block c hl (by omega)
        obtain ⟨O, hO⟩ : ∃ O, O = Obj.cells #[.int .i64 x.kind, .int .i64 x.num, .string x.text, .slice bl x.list.length dl, .slice bf x.fields.length df] 31 := ⟨_, rfl⟩
        have hG2 : GrowsJ n ((w1.alloc O).alloc O) (w.heap.size + 1) (.slice al es.length cl) es := hG1.move fun b _ hl => by rw [Below.heap_alloc _ _ b (by simp; omega), Below.heap_alloc _ _ b hl]
        have hnews : Aside (∀ j u, [Value.int .i64 x.kind, .int .i64 x.num, .string x.text, .slice bl x.list.length dl, .slice bf x.fields.length df][j]? = some u → ((w1.alloc O).alloc O).cell? ((⟨w1.heap.size + 1, 0, none⟩ : Addr).add j) = some u) := by
          have h : ((w1.alloc O).alloc O).heap[w1.heap.size + 1]? = some O := heap_alloc2_new
          rw [hO] at h ⊢
          exact World.news_of_block h
        have hone : Aside (∀ v ∈ [Value.int .i64 x.kind, .int .i64 x.num, .string x.text, .slice bl x.list.length dl, .slice bf x.fields.length df], v.oneCell' = true) := by
          intro v hv
          simp only [List.mem_cons, List.not_mem_nil, or_false] at hv
          rcases hv with rfl | rfl | rfl | rfl | rfl <;> rfl
        have hown := (show Aside _ from hG2.own)
        have hszz : w1.heap.size + 1 + 1 = ((w1.alloc O).alloc O).heap.size := by simp
        have hnb : ∀ c, c < w.heap.size + 1 + 1 → some c ≠ (Value.slice al es.length cl).ownBlock := fun c hc e => by
          have := (hG2.own.lt c e.symm).1
          omega
        have hR3 : Aside (∀ w3, ((w1.alloc O).alloc O).grownBy w3 (Value.slice al es.length cl).ownBlock → w3.heap[w.heap.size + 1]? = some (.cells #[.int .i64 4, .int .i64 0, .string ⟨#[]⟩, .slice al es.length cl, .slice none 0 0] 31 (0, 0)) ∧ w3.heap[w.heap.size]? = some (.cells #[.int .i64 0, .int .i64 0, .string ⟨#[]⟩, .slice none 0 0, .slice none 0 0] 31 (0, 0))) := by
          intro w3 hgr
          have hl0 := lt_of_heap hrow0'
          refine ⟨(hgr.block _ (by simp; omega) (hnb _ (by omega))).trans ?_, (hgr.block _ (by simp; omega) (hnb _ (by omega))).trans ?_⟩
          · rw [Below.heap_alloc _ _ _ (by simp; omega), Below.heap_alloc _ _ _ (by omega)]; exact hrow1'
          · rw [Below.heap_alloc _ _ _ (by simp; omega), Below.heap_alloc _ _ _ (by omega)]; exact hrow0'
        have hes : es.length ≤ 4096 := by have := R'.hk; have := R'.hs; omega
        rw [hO] at hown hnews hszz hR3
        have T := (show Hid _ from And.intro hrx (And.intro R1 (And.intro hd1 (And.intro hG2 (And.intro K0 (And.intro hlw (And.intro hO hnb)))))))
        have hsb : w.heap.size + 1 + 1 ≤ w1.heap.size := hz1'
        have hbw1 : b < w1.heap.size := by omega
        clear hrv R' hle hgg hm hr L hrx R1 hd1 hG hG1 hG2 K0 K1 hrow0' hrow1' hO hlw hnb
        go_wp2_with (first | (at_builtin; refine wpList_append_lies _ rfl (.tmp 29) (.tmp 31) 28 rfl (w.heap.size + 1 + 1) 31 i0 _ 5 80 Tryz.underlying28 hi hz0 hz1 hz2 rfl (by decide) _ es.length (encEs es) rfl hown.out ⟨w1.heap.size + 1, 0, none⟩ 1 1 [.int .i64 x.kind, .int .i64 x.num, .string x.text, .slice bl x.list.length dl, .slice bf x.fields.length df] rfl rfl hnews.out hone.out (by omega) (by unfold maxLen; omega) (by omega) (by simp; omega) _ rfl ?_; intro g cap' w3 hown3 hgrow3 hlie hlt3; have r3 := (hR3.out w3 hgrow3).1; obtain ⟨m0, m1, m2, m3, m4, mf⟩ := row5 r3; have zz3 : w.heap.size + 1 < w3.heap.size := lt_of_heap r3; have Y := (show Aside _ from And.intro hown3 (And.intro hgrow3 (And.intro hlie r3))); clear hown3 hgrow3 hlie r3))
        obtain ⟨hown3, hgrow3, hlie, r3⟩ := Y.out
        obtain ⟨hrx, R1, hd1, hG2, K0, hlw, hO, hnb⟩ := T.out
        obtain ⟨hrv, R', hle, hgg, hm, hr, L⟩ := HS.out
        rw [← hO] at hgrow3 hR3
        have q3 := (hR3.out w3 hgrow3).2
        have hbl : ∀ c, c < w1.heap.size → some c ≠ (Value.slice al es.length cl).ownBlock → w3.heap[c]? = w1.heap[c]? := fun c hc hne => by
          rw [hgrow3.block c (by simp; omega) hne, Below.heap_alloc _ _ _ (by simp; omega), Below.heap_alloc _ _ _ hc]
        obtain ⟨sv, hsv⟩ : ∃ sv, sv = Value.slice (some ⟨g, 0, none⟩) (es.length + 1) cap' := ⟨_, rfl⟩
        have hA : Below w1.heap.size w1 ((w1.alloc O).alloc O) := ((Below.refl _ _).alloc (Nat.le_refl _) _).alloc (by simp) _
        have hKs : Kept (w.heap.size + 1) w3 (w3.setCell ⟨w.heap.size + 1, 3, none⟩ sv) := Kept.set w3
        have hz3 : w1.heap.size ≤ w3.heap.size := Nat.le_trans hA.size hgrow3.size
        have K3 : Kept b w (w3.setCell ⟨w.heap.size + 1, 3, none⟩ sv) := by
          have h1 := K0.size
          refine ⟨hKs.os.trans (hgrow3.os.trans (hA.os.trans K0.os)), hKs.tape.trans (hgrow3.tape.trans (hA.tape.trans K0.tape)), hKs.output.trans (hgrow3.output.trans (hA.output.trans K0.output)), Nat.le_trans h1 (Nat.le_trans hz3 hKs.size), fun c hc hcb => ?_⟩
          rw [hKs.block c (by omega) (by omega), hbl c (by omega) (hnb c (by omega))]
          exact K0.block c hc hcb
        have R3 : Rd w0 b s k1 (w3.setCell ⟨w.heap.size + 1, 3, none⟩ sv) :=
          HW.out.2.1.kept K3 (by rw [hKs.block b (by omega) (by omega), hbl b (by omega) (hnb b (by omega))]; exact R1.rd) R1.hk
        have hen := ends_any R3 93 (by decide)
        rw [hd1] at hen
        obtain ⟨re, hre⟩ : ∃ r, endsP (93 : UInt8).toNat rest = r := ⟨_, rfl⟩
        rw [hre, hsv] at hen
        have HU := (show Hid _ from And.intro K3 (And.intro R3 (And.intro hre (And.intro hsv q3))))
        clear K3 R3 hre hrv R' hle hgg hm hr L hrx R1 hd1 hG2 K0 hlw hO hnb hown3 hgrow3 hlie r3 q3 hsv hbl hA hKs hz3
        go_wp2_with fail
        refine hen.mono ?_
        rintro e w4 ⟨K4, h4⟩
        have hbw3 : b ≠ w.heap.size := by omega
        clear hen
        cases re with
        | none =>
          obtain ⟨x', rfl, hx⟩ := h4
          obtain ⟨K3, R3, hre, hsv, q3⟩ := HU.out
          have hs3 : (w3.setCell ⟨w.heap.size + 1, 3, none⟩ sv).heap[w.heap.size]? = some (.cells #[.int .i64 0, .int .i64 0, .string ⟨#[]⟩, .slice none 0 0, .slice none 0 0] 31 (0, 0)) := (heap_setCell_ne _ _ _ (by simp)).trans q3
          rw [← hsv] at K4
          obtain ⟨r4, K4'⟩ := wordRow2 K3 hs3 K4 (by omega)
          obtain ⟨j0, j1, j2, j3, j4, jf⟩ := row5 r4
          obtain ⟨u, z, rfl⟩ := hx.iface
          have HV := (show Hid _ from And.intro hx (And.intro K4' r4))
          clear hx K4' r4 K3 R3 hre hsv q3 hs3 K4 m0 m1 m2 m3 m4 mf k0 k1' k2 k3 k4 kf hR3 hnews hone hown
          go_wp2
          obtain ⟨hx, K4', r4⟩ := HV.out
          obtain ⟨hrv, R', hle, hgg, hm, hr, L⟩ := HS.out
          obtain ⟨K3, R3, hre, hsv, q3⟩ := HU.out
          refine bodyPost_ret (v := .tuple #[zeroA, .iface u z]) (by simp [results, Tryz.results47, go_sem, j0, j1, j2, j3, j4]) rfl (Ans.err hx K4' r4 ?_ 0 1 2 3 4 _ _ _ _ _)
          cases m with
          | zero => omega
          | succ m =>
            have hre' : endsP 93 rest = none := hre
            rw [hr]
            simp only [elemsP, hrv, hre', lift]
        | some re =>
          obtain ⟨rfl, k4', R4, hd4⟩ := h4
          obtain ⟨p', t'⟩ := re
          simp only at hd4 ⊢
          have HV := (show Hid _ from And.intro R4 (And.intro hd4 K4))
          clear R4 hd4 K4 hR3 hnews hone hown m0 m1 m2 m3 m4 mf k0 k1' k2 k3 k4 kf
          go_wp2_with fail
          go_roundg (s.size - k4' + 1)
          case measure =>
            obtain ⟨hrv, R', hle, hgg, hm, hr, L⟩ := HS.out
            obtain ⟨hrx, R1, hd1, hG2, K0, hlw, hO, hnb⟩ := T.out
            obtain ⟨K3, R3, hre, hsv, q3⟩ := HU.out
            obtain ⟨R4, hd4, K4⟩ := HV.out
            have h1 := (value_tail n _ _ hrv).len
            have h2 := ends_less (by decide) hre
            simp only at h1
            rw [← hd4] at h2
            rw [len_drop] at h1 h2
            omega
          case rel =>
            obtain ⟨hrv, R', hle, hgg, hm, hr, L⟩ := HS.out
            obtain ⟨hrx, R1, hd1, hG2, K0, hlw, hO, hnb⟩ := T.out
            obtain ⟨K3, R3, hre, hsv, q3⟩ := HU.out
            obtain ⟨R4, hd4, K4⟩ := HV.out
            obtain ⟨hown3, hgrow3, hlie, r3⟩ := Y.out
            rw [← hO] at hgrow3
            have h1 := (value_tail n _ _ hrv).len
            have h2 := ends_less (by decide) hre
            simp only at h1
            rw [← hd4] at h2
            rw [len_drop] at h1 h2
            have hrx2 : Rep (fun c => w.heap.size + 1 < c ∧ (Value.slice al es.length cl).ownBlock ≠ some c) n ((w1.alloc O).alloc O) x (.slice bl x.list.length dl) (.slice bf x.fields.length df) := hrx.move fun c hc hl => by
              have hw1 := L.kept.size
              have hw2 := lt_of_heap L.row1
              refine ⟨⟨by omega, fun e => ?_⟩, by rw [Below.heap_alloc _ _ c (by simp; omega), Below.heap_alloc _ _ c hl]⟩
              have := hlw c e
              omega
            have hG3 : GrowsJ n w3 (w.heap.size + 1) sv (es ++ [⟨x, .slice bl x.list.length dl, .slice bf x.fields.length df⟩]) := by
              rw [hsv]
              refine hG2.step hrx2 hown3 hgrow3 ?_
              rcases hlie with e | e
              · exact .inl e
              · right; show some g = _; rw [e]; simp
            rw [← hsv] at K4
            have hne : ∀ c, c ≠ w.heap.size + 1 → (w3.setCell ⟨w.heap.size + 1, 3, none⟩ sv).heap[c]? = w3.heap[c]? := fun c hc => heap_setCell_ne _ _ _ hc
            have hG4 := (hG3.move (W' := w3.setCell ⟨w.heap.size + 1, 3, none⟩ sv) fun c hc _ => hne c (by omega)).move (W' := w4) fun c hc hl => K4.block c hl (by omega)
            have hl3 := lt_of_heap r3
            have hz3 : (w3.setCell ⟨w.heap.size + 1, 3, none⟩ sv).heap.size = w3.heap.size := by simp [World.setCell]
            refine ⟨p', es ++ [⟨x, .slice bl x.list.length dl, .slice bf x.fields.length df⟩], sv, rfl, K3.trans K4, ?_, ?_, hG4, k4', R4, ?_, ?_, ?_⟩
            · rw [K4.block _ (by omega) (by omega), hne _ (by omega)]; exact q3
            · rw [K4.block _ (by omega) (by omega)]; exact setCell_row r3 (i := 3) _
            · rw [List.length_append, List.length_singleton]; omega
            · intro e
              subst e
              cases m with
              | zero => omega
              | succ m =>
                have hre' : endsP 93 rest = some (true, t') := hre
                rw [hr, hd4]
                simp only [elemsP, hrv, hre', lift, List.map_append, List.map_cons, List.map_nil]
            · intro e
              subst e
              cases m with
              | zero => omega
              | succ m =>
                have hre' : endsP 93 rest = some (false, t') := hre
                rw [len_drop] at hm
                refine ⟨by omega, m, by rw [len_drop]; omega, ?_⟩
                rw [hr, hd4]
                simp only [elemsP, hrv, hre', List.map_append, List.map_cons, List.map_nil]
    · obtain ⟨k0, k1, k2, k3, k4, kf⟩ := row5 L.row1
      obtain ⟨j0, j1, j2, j3, j4, jf⟩ := row5 L.row0
      have hz1' : w.heap.size + 1 < wr.heap.size := lt_of_heap L.row1
      clear ih L
      go_wp2
      exact bodyPost_ret (v := .tuple #[.agg #[.int .i64 4, .int .i64 0, .string ⟨#[]⟩, .slice al es.length cl, .slice none 0 0], .nilIface]) (by simp [results, Tryz.results47, go_sem, j0, j1, j2, j3, j4]) rfl (hL.out.done hbw 0 1 2 3 4 _ _ _ _ _)
end Go.Proofs.YtnkoblhdbccbeaaGreatDoor

namespace Go.Proofs.YtnkoblhdbccbeaaGreatDoor
open Go.RowKit

theorem sizeF (w : World) : (Go.sizeOf 52).run Tryz.prog w = .ok 6 w := by
  simp [go_sem, Tryz.sizeOf52]

set_option maxRecDepth 100000 in
set_option maxHeartbeats 2000000 in
theorem Insert_in (B Bv i p c : Nat) (nw : Fl) (cur : Array Value) (w : World) (hg : w.heap[B]? = some (.cells cur 52 (0, 0))) (hsz : cur.size = c * 6) (hc : i + 1 + p < c) (_hcm : c ≤ 9223372036854775807) (hone : ∀ u ∈ cur.toList.take ((i + 1 + p) * 6), u.oneCell' = true) (hone2 : ∀ u ∈ nw.enc, u.oneCell' = true) (hn : i + 1 + p < 1000000)
    (hne : Bv ≠ B) (row : w.heap[Bv]? = some (.cells nw.enc.toArray 52 (0, 0))) :
    Calls Tryz.prog 104 #[.slice (some ⟨B, 0, none⟩) (i + 1 + p) c, .int .i64 (i : Int), .slice (some ⟨Bv, 0, none⟩) 1 1] w
      fun e w' => e = .returned (.slice (some ⟨B, 0, none⟩) (i + 1 + p + 1) c) ∧ (∃ cur', w'.heap[B]? = some (.cells cur' 52 (0, 0)) ∧ cur'.size = c * 6 ∧ cur'.toList.take ((i + 1 + p + 1) * 6) = cur.toList.take (i * 6) ++ nw.enc ++ (cur.toList.take ((i + 1 + p) * 6)).drop (i * 6)) ∧ w.grownBy w' (some B) := by
  have hen : nw.enc.length = 6 := rfl
  have hov := Lib.run_overlaps_apart (P := Tryz.prog) w 29 4 52 Tryz.underlying29 6 sizeF ⟨Bv, 0, none⟩ ⟨B, (i + 1) * 6, none⟩ 1 1 (p + 1) (c - (i + 1)) hne 52 52 6 (c * 6) (by simp [World.shape?, row, Fl.enc]) (by simp [World.shape?, hg, hsz]) (by omega) (by simp [World.frozen?, row]) (by simp [World.frozen?, row])
  rw [show p + 1 = i + 1 + p - i by omega] at hov
  have hcall : (callFunc 125 #[.slice (some ⟨Bv, 0, none⟩) 1 1, .slice (some ⟨B, (i + 1) * 6, none⟩) (i + 1 + p - i) (c - (i + 1))]).run Tryz.prog w = .ok (.value (.bool false)) w := by
    rw [@run_callFunc_extern Tryz.prog 125 _ (Extern.SlicesOverlaps.overlaps #[29, 29] #[4]) Tryz.func125 (by kernel_rfl) (by kernel_rfl) (by kernel_rfl) (by kernel_rfl), hov]
    rfl
  clear hov
  have hlk : (cur.toList.take ((i + 1 + p) * 6)).length = (i + 1 + p) * 6 := by simp; omega
  obtain ⟨rest, hrest⟩ : ∃ rest, rest = (cur.toList.take ((i + 1 + p) * 6)).drop (i * 6) := ⟨_, rfl⟩
  have hlr : rest.length = (p + 1) * 6 := by rw [hrest, List.length_drop, hlk]; omega
  obtain ⟨row1, hrow1⟩ : ∃ row1, row1 = (cur.toList.take ((i + 1) * 6) ++ rest ++ cur.toList.drop ((i + 1) * 6 + rest.length)).toArray := ⟨_, rfl⟩
  have hs1 : row1.size = c * 6 := by rw [hrow1]; simp; omega
  obtain ⟨W1, hW1⟩ : ∃ W1, W1 = w.drew.setRow B row1 := ⟨_, rfl⟩
  have hgd : w.drew.heap[B]? = some (.cells cur 52 (0, 0)) := hg
  obtain ⟨r1, hcp1⟩ : ∃ r, Hid (∀ ty, (Builtin.copy_ #[29, 29] ty #[.slice (some ⟨B, (i + 1) * 6, none⟩) (i + 1 + p - i) (c - (i + 1)), .slice (some ⟨B, i * 6, none⟩) (i + 1 + p + 1 - i) (c - i)]).run Tryz.prog w.drew = .ok r W1) := by
    refine ⟨goInt ((Nat.min (i + 1 + p + 1 - i) (i + 1 + p - i) : Nat) : Int), fun ty => ?_⟩
    have hmn : Nat.min (i + 1 + p + 1 - i) (i + 1 + p - i) = p + 1 := by rw [show i + 1 + p + 1 - i = p + 2 by omega, show i + 1 + p - i = p + 1 by omega]; exact Nat.min_eq_right (by omega)
    have := run_copy_rows w.drew ty B ((i + 1) * 6) (i + 1 + p - i) (c - (i + 1)) ⟨B, i * 6, none⟩ (i + 1 + p + 1 - i) (c - i) cur rest hgd (by rw [hmn, hlr]) (fun j u hj => by
      rw [Addr.add_lit]
      rw [hrest, List.getElem?_drop, List.getElem?_take] at hj
      split at hj
      · show w.cell? _ = _
        simpa [World.cell?, hg] using hj
      · cases hj) (by rw [hlr, hsz]; omega) (fun u hu => hone u (by rw [hrest] at hu; exact List.mem_of_mem_drop hu))
    rw [this, hW1, hrow1]
  have hg1 : W1.heap[B]? = some (.cells row1 52 (0, 0)) := by rw [hW1]; exact setRow_heap w.drew _ cur row1 _ _ hgd
  have hBv : W1.heap[Bv]? = some (.cells nw.enc.toArray 52 (0, 0)) := by rw [hW1, ← row]; exact (setRow_grown (w := w.drew) (B := B) row1).block Bv (lt_of_heap row) (fun e => hne (Option.some.inj e))
  obtain ⟨row2, hrow2⟩ : ∃ row2, row2 = (row1.toList.take (i * 6) ++ nw.enc ++ row1.toList.drop (i * 6 + nw.enc.length)).toArray := ⟨_, rfl⟩
  have hs2 : row2.size = c * 6 := by rw [hrow2]; simp; omega
  obtain ⟨W2, hW2⟩ : ∃ W2, W2 = W1.setRow B row2 := ⟨_, rfl⟩
  obtain ⟨r2, hcp2⟩ : ∃ r, Hid (∀ ty, (Builtin.copy_ #[29, 29] ty #[.slice (some ⟨B, i * 6, none⟩) (i + 1 + p + 1 - i) (c - i), .slice (some ⟨Bv, 0, none⟩) 1 1]).run Tryz.prog W1 = .ok r W2) := by
    refine ⟨goInt ((Nat.min 1 (i + 1 + p + 1 - i) : Nat) : Int), fun ty => ?_⟩
    have hmn : Nat.min 1 (i + 1 + p + 1 - i) = 1 := by rw [show i + 1 + p + 1 - i = p + 2 by omega]; exact Nat.min_eq_left (by omega)
    have := run_copy_rows W1 ty B (i * 6) (i + 1 + p + 1 - i) (c - i) ⟨Bv, 0, none⟩ 1 1 row1 nw.enc hg1 (by rw [hmn]; rfl) (fun j u hj => by rw [Addr.add_lit, Nat.zero_add]; simpa [World.cell?, hBv] using hj) (by rw [hen, hs1]; omega) hone2
    rw [this, hW2, hrow2]
  have S := (show Hid _ from And.intro hg1 (And.intro hW1 (And.intro hW2 (And.intro hrow2 (And.intro hrow1 (And.intro hrest (And.intro hlr (And.intro hs1 (And.intro hs2 hsz)))))))))
  clear hg1 hW1 hW2 hrow2 hrow1 hrest hlr hs1 hs2 hBv hgd hone hone2 hg hsz row hlk
  have q1 : ((i : Int) == (i : Int) + 1 + (p : Int)) = false := by simp; omega
  have q2 : ¬ (c : Int) < (i : Int) + 1 + (p : Int) + 1 := by omega
  have q3 : (i : Int) ≤ (i : Int) + 1 + (p : Int) := by omega
  have q4 : ¬ c = i := by omega
  have q5 : ¬ c = i + 1 := by omega
  have qw : IntKind.i64.wrap ((i : Int) + 1) = (i : Int) + 1 := by rw [IntKind.wrap_i64]; omega
  have q6 : (0 : Int) ≤ (i : Int) + 1 := by omega
  have q7 : (i : Int) + 1 ≤ (i : Int) + 1 + (p : Int) + 1 := by omega
  have q8 : (i : Int) ≤ (i : Int) + 1 + (p : Int) + 1 := by omega
  have hc2 := hcp2.out
  go_enter Tryz.func104, Tryz.ntmps104
  go_wp2
  go_region_law (refine step_copy_eq rfl (.tmp 73) (.tmp 76) 29 29 rfl _ _ (by simp [Act.eval, Act.put]) (by simp [Act.eval, Act.put]) _ _ (hcp1.out _) ?_)
  go_wp2
  go_ret
  obtain ⟨hg1, hW1, hW2, hrow2, hrow1, hrest, hlr, hs1, hs2, hsz⟩ := S.out
  have hlc : cur.toList.length = c * 6 := by simpa using hsz
  have hl1 : (cur.toList.take ((i + 1) * 6)).length = (i + 1) * 6 := by rw [List.length_take]; omega
  have hl0 : (cur.toList.take (i * 6)).length = i * 6 := by rw [List.length_take]; omega
  have t1 : row1.toList.take (i * 6) = cur.toList.take (i * 6) := by
    rw [hrow1, List.toList_toArray, List.append_assoc, List.take_append_of_le_length (by omega), List.take_take, Nat.min_eq_left (by omega)]
  have t2 : row1.toList.drop (i * 6 + 6) = rest ++ cur.toList.drop ((i + 1) * 6 + rest.length) := by
    rw [hrow1, List.toList_toArray, List.append_assoc]
    exact List.drop_left' (by omega)
  have g1 := setRow_grown (w := w.drew) (B := B) row1
  have g2 := setRow_grown (w := W1) (B := B) row2
  rw [← hW1] at g1
  rw [← hW2] at g2
  refine ⟨rfl, ⟨row2, ?_, hs2, ?_⟩, ⟨g2.os.trans g1.os, g2.tape.trans g1.tape, g2.output.trans g1.output, Nat.le_trans g1.size g2.size, fun k hk hne => (g2.block k (Nat.lt_of_lt_of_le hk g1.size) hne).trans (g1.block k hk hne)⟩⟩
  · rw [hW2]; exact setRow_heap W1 _ row1 row2 _ _ hg1
  · rw [hrow2, List.toList_toArray, t1, hen, t2, ← hrest, ← List.append_assoc]
    have hll : (cur.toList.take (i * 6) ++ nw.enc ++ rest).length = (i + 1 + p + 1) * 6 := by rw [List.length_append, List.length_append, hl0, hen, hlr]; omega
    rw [List.take_append_of_le_length (by omega), List.take_of_length_le (by omega)]

set_option maxRecDepth 100000 in
set_option maxHeartbeats 2000000 in
theorem Insert_last (fs : List Fl) (g cap B0 Bv : Nat) (nw : Fl) (w : World) (hown : w.ownsRow B0 52 6 (.slice (some ⟨g, 0, none⟩) fs.length cap) fs.length (encFs fs)) (hB0 : B0 ≤ w.heap.size)
    (hone2 : ∀ u ∈ nw.enc, u.oneCell' = true) (hn : fs.length < 1000000) (_hc0 : cap ≤ 9223372036854775807) (_hc1 : fs.length ≤ cap) (hv : ∀ i u, nw.enc[i]? = some u → w.cell? ⟨Bv, i, none⟩ = some u) :
    Calls Tryz.prog 104 #[.slice (some ⟨g, 0, none⟩) fs.length cap, .int .i64 (fs.length : Int), .slice (some ⟨Bv, 0, none⟩) 1 1] w
      fun e w' => ∃ v', e = .returned v' ∧ w'.ownsRow B0 52 6 v' (fs.length + 1) (encFs fs ++ nw.enc) ∧ w.grownBy w' (some g) ∧ (some g = v'.ownBlock ∨ ∃ g, v'.ownBlock = some g ∧ w.heap.size ≤ g) := by
  obtain ⟨i0, hi, hz0, hz1, hz2⟩ := info_parts infoF
  have HO := (show Hid _ from hown)
  have hnews : Hid (∀ j u, nw.enc[j]? = some u → w.cell? ((⟨Bv, 0, none⟩ : Addr).add j) = some u) := fun j u hj => by rw [Addr.add_lit, Nat.zero_add]; exact hv j u hj
  have H1 := (show Hid _ from hone2)
  clear hown hv hone2
  go_enter Tryz.func104, Tryz.ntmps104
  go_wp2_with (first | (at_builtin; refine wpList_append_lies _ rfl (.tmp 23) (.tmp 24) 29 rfl B0 52 i0 _ 6 96 Tryz.underlying29 hi hz0 hz1 hz2 rfl (by decide) _ fs.length (encFs fs) rfl HO.out ⟨Bv, 0, none⟩ 1 1 nw.enc rfl rfl hnews.out H1.out (by omega) (by unfold maxLen; omega) (by omega) hB0 _ rfl ?_; intro g' cap' w3 hown3 hgrow3 hlie hlt3; have Y := (show Hid _ from And.intro hown3 (And.intro hgrow3 hlie)); clear hown3 hgrow3 hlie))
  all_goals
    go_ret
    obtain ⟨hown3, hgrow3, hlie⟩ := Y.out
    refine ⟨_, rfl, hown3, hgrow3, ?_⟩
    rcases hlie with e | e
    · exact .inl e
    · exact .inr ⟨g', rfl, by omega⟩

/-- what is inserted into fields that one owns. -/
theorem Insert_own (fs : List Fl) (s : Value) (B0 Bv j : Nat) (nw : Fl) (w : World) (hown : w.ownsRow B0 52 6 s fs.length (encFs fs)) (hB0 : B0 ≤ w.heap.size)
    (hone : ∀ u ∈ encFs fs, u.oneCell' = true) (hone2 : ∀ u ∈ nw.enc, u.oneCell' = true) (hj : j ≤ fs.length) (hn : fs.length < 1000000) (hne : s.ownBlock ≠ some Bv) (row : w.heap[Bv]? = some (.cells nw.enc.toArray 52 (0, 0))) :
    Calls Tryz.prog 104 #[s, .int .i64 (j : Int), .slice (some ⟨Bv, 0, none⟩) 1 1] w
      fun e w' => ∃ v', e = .returned v' ∧ w'.ownsRow B0 52 6 v' (fs.length + 1) (encFs (fs.take j ++ nw :: fs.drop j)) ∧ w.grownBy w' s.ownBlock ∧ (s.ownBlock = v'.ownBlock ∨ ∃ g, v'.ownBlock = some g ∧ w.heap.size ≤ g) := by
  have hv : ∀ i u, nw.enc[i]? = some u → w.cell? ⟨Bv, i, none⟩ = some u := fun i u hi => by simpa [World.cell?, row] using hi
  have hsplit : encFs (fs.take j ++ nw :: fs.drop j) = (encFs fs).take (j * 6) ++ nw.enc ++ (encFs fs).drop (j * 6) := by
    rw [encFs_append, encFs_take, encFs_drop, List.append_assoc]; rfl
  have hfin : ∀ (r : Option Nat) (w' : World) (v' : Value) (m : Nat) (xs : List Value), RowAt (fun k => k = w.heap.size) w' 52 6 v' m xs → Below w.heap.size w w' → w'.ownsRow B0 52 6 v' m xs ∧ w.grownBy w' r := fun r w' v' m xs h hb =>
    ⟨ownsRow_move (fun b hb' _ => ⟨by have := h.2.2 b hb'; omega, rfl⟩) h.1, ⟨hb.os, hb.tape, hb.output, hb.size, fun k hk _ => hb.block k hk⟩⟩
  rw [hsplit]
  rcases hown with ⟨hl, ⟨rfl, hz⟩ | ⟨g, cap, cur, rfl, hBg, hg, hnc, hcm, hsz, htk⟩⟩
  · have hf : fs = [] := List.eq_nil_of_length_eq_zero hz
    subst hf
    obtain rfl : j = 0 := by simpa using hj
    refine (Insert_nil nw Bv w hv).mono ?_
    rintro e w' ⟨v', rfl, hr, hb⟩
    obtain ⟨o1, o2⟩ := hfin none w' v' _ _ hr hb
    refine ⟨v', rfl, by simpa [encFs] using o1, o2, .inr ?_⟩
    obtain ⟨b, c, rfl, _, hb2, _⟩ := hr.cells (by omega)
    exact ⟨b, rfl, by omega⟩
  · have hgv : g ≠ Bv := fun e => hne (by rw [e]; rfl)
    have hcap9 : cap ≤ 9223372036854775807 := Nat.le_trans hcm (by decide)
    by_cases he : j = fs.length
    · subst he
      have e1 : (encFs fs).take (fs.length * 6) = encFs fs := List.take_of_length_le (by omega)
      have e2 : (encFs fs).drop (fs.length * 6) = [] := List.drop_of_length_le (by omega)
      rw [e1, e2, List.append_nil]
      exact Insert_last fs g cap B0 Bv nw w ⟨hl, .inr ⟨g, cap, cur, rfl, hBg, hg, hnc, hcm, hsz, htk⟩⟩ hB0 hone2 hn hcap9 hnc hv
    · obtain ⟨p, hp⟩ : ∃ p, fs.length = j + 1 + p := ⟨fs.length - (j + 1), by omega⟩
      by_cases hfull : cap = fs.length
      · subst hfull
        have hcur : cur.toList = encFs fs := by rw [← htk]; exact (List.take_of_length_le (by simp; omega)).symm
        rw [hp, ← hcur]
        refine (Insert_mid g Bv j p nw cur w hg (by rw [hsz, hp]) (by rw [hcur]; exact hone) hone2 (by omega) hv).mono ?_
        rintro e w' ⟨v', rfl, hr, hb⟩
        obtain ⟨o1, o2⟩ := hfin (some g) w' v' _ _ hr hb
        refine ⟨v', rfl, o1, o2, .inr ?_⟩
        obtain ⟨b, c, rfl, _, hb2, _⟩ := hr.cells (by omega)
        exact ⟨b, rfl, by omega⟩
      · rw [hp] at htk hl ⊢
        refine (Insert_in g Bv j p cap nw cur w hg hsz (by omega) hcap9 (by rw [htk]; exact hone) hone2 (by omega) (fun e => hgv e.symm) row).mono ?_
        rintro e w' ⟨rfl, ⟨cur', c1, c2, c3⟩, hgr⟩
        have htj : cur.toList.take (j * 6) = (encFs fs).take (j * 6) := by rw [← htk, List.take_take, Nat.min_eq_left (by omega)]
        rw [htk, htj] at c3
        have hlj : ((encFs fs).take (j * 6)).length = j * 6 := by rw [List.length_take]; omega
        refine ⟨_, rfl, ⟨?_, .inr ⟨g, cap, cur', rfl, hBg, c1, by omega, hcm, c2, c3⟩⟩, hgr, .inl rfl⟩
        rw [List.length_append, List.length_append, hlj, List.length_drop, hl, show nw.enc.length = 6 from rfl]
        omega
end Go.Proofs.YtnkoblhdbccbeaaGreatDoor
