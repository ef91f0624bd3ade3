/-
  The program's reader of JSON: what stands behind a thing; lists. Conditions: as stated (texts of at most 4096 bytes).
-/
import Derived.Test.YtdcaohnaiepllaaGreatDoorJR5
import Derived.Test.YtdcaohnaiepllaaGreatDoorVMade3
namespace Go.Proofs.YtdcaohnaiepllaaGreatDoor
open Go.RowKit Go.Extern.Stop Go.Stop Go.Extern

/-- what is answered behind a thing. -/
def AnsE (w0 : World) (b : Nat) (s : ByteArray) (W : World) (r : Option (Bool × List UInt8)) (e : Ending) (w' : World) : Prop :=
  Kept b W w' ∧
  match r with
  | none => ∃ x, e = .returned (.tuple #[.bool false, x]) ∧ Flt 1 w' x
  | some r => e = .returned (.tuple #[.bool r.1, .nilIface]) ∧ ∃ k', Rd w0 b s k' w' ∧ s.data.toList.drop k' = r.2

set_option maxHeartbeats 1000000 in
theorem ends_any {w0 w : World} {b k : Nat} {s : ByteArray} (R : Rd w0 b s k w) (c : UInt8) (hc : c.toNat ≠ 0) :
    Calls Tryz.prog 66 #[.pointer (some ⟨b, 0, none⟩), .string ⟨#[c]⟩] w (AnsE w0 b s w (endsP c.toNat (s.data.toList.drop k))) := by
  obtain ⟨RR, hRR⟩ : ∃ r, endsP c.toNat (s.data.toList.drop k) = r := ⟨_, rfl⟩
  rw [hRR]
  obtain ⟨p, hp⟩ : ∃ p, decide (hd (skip (s.data.toList.drop k)) = c.toNat) = p := ⟨_, rfl⟩
  have hmk := mark_one R c hc hp
  have HW := (show Hid _ from And.intro hp hRR)
  clear hp hRR R
  go_enter Tryz.func66, Tryz.ntmps66
  go_wp2_with fail
  refine hmk.mono ?_
  rintro e w1 ⟨rfl, K1, k1, R1, hd1⟩
  clear hmk
  cases p
  · have hd1 : s.data.toList.drop k1 = skip (s.data.toList.drop k) := hd1
    obtain ⟨q, hq⟩ : ∃ q, decide (hd (s.data.toList.drop k1) = (44 : UInt8).toNat) = q := ⟨_, rfl⟩
    have htk := take_one R1 44 (by decide) hq
    have HX := (show Hid _ from And.intro hq (And.intro hd1 K1))
    clear hq hd1 K1
    go_wp2_with fail
    refine htk.mono ?_
    rintro e w2 ⟨rfl, K2, k2, R2, hd2⟩
    clear htk R1
    cases q
    · have hfl := fail_any R2 1 rfl
      have HY := (show Hid _ from K2)
      clear R2 K2 hd2
      go_wp2_with fail
      refine hfl.mono ?_
      rintro e w3 ⟨x, rfl, hx, hb3⟩
      obtain ⟨u, z, rfl⟩ := hx.iface
      clear hfl
      go_wp2_with fail
      go_ret2
      obtain ⟨hq, hd1, K1⟩ := HX.out
      obtain ⟨hp, hr⟩ := HW.out
      refine ⟨(K1.trans HY.out).trans (Kept.of_below hb3), ?_⟩
      rw [hd1] at hq
      rw [← hr]
      unfold endsP
      rw [if_neg (of_decide_eq_false hp), if_neg (show ¬ hd (skip (s.data.toList.drop k)) = 44 from of_decide_eq_false hq)]
      exact ⟨_, rfl, hx⟩
    · have HY := (show Hid _ from And.intro R2 (And.intro K2 hd2))
      clear R2 K2 hd2
      go_wp2_with fail
      go_ret2
      obtain ⟨hq, hd1, K1⟩ := HX.out
      obtain ⟨R2, K2, hd2⟩ := HY.out
      obtain ⟨hp, hr⟩ := HW.out
      refine ⟨K1.trans K2, ?_⟩
      rw [hd1] at hq hd2
      rw [← hr]
      unfold endsP
      rw [if_neg (of_decide_eq_false hp), if_pos (show hd (skip (s.data.toList.drop k)) = 44 from of_decide_eq_true hq)]
      exact ⟨rfl, k2, R2, hd2⟩
  · have HX := (show Hid _ from And.intro R1 (And.intro hd1 K1))
    clear R1 hd1 K1
    go_wp2_with fail
    go_ret2
    obtain ⟨R1, hd1, K1⟩ := HX.out
    obtain ⟨hp, hr⟩ := HW.out
    refine ⟨K1, ?_⟩
    rw [← hr]
    unfold endsP
    rw [if_pos (of_decide_eq_true hp)]
    exact ⟨rfl, k1, R1, hd1⟩

/-- a list that grows. -/
structure GrowsJ (d : Nat) (W : World) (B : Nat) (s : Value) (es : List El) : Prop where
  own : W.ownsRow (B + 1) 31 5 s es.length (encEs es)
  rep : ∀ e ∈ es, Rep (fun b => B < b ∧ s.ownBlock ≠ some b) d W e.v e.l e.f
theorem GrowsJ.move {d B : Nat} {W W' : World} {s : Value} {es : List El} (h : GrowsJ d W B s es) (hm : ∀ b, B < b → b < W.heap.size → W'.heap[b]? = W.heap[b]?) : GrowsJ d W' B s es :=
  ⟨ownsRow_move (fun b hb hl => ⟨(h.own.lt b hb).1, hm b (by have := (h.own.lt b hb).1; omega) hl⟩) h.own, fun e he => (h.rep e he).move fun b hb hl => ⟨hb, hm b hb.1 hl⟩⟩
theorem GrowsJ.step {d B : Nat} {W3 : World} {sl v' : Value} {es : List El} {x : V} {l f : Value} {W2 : World} (h : GrowsJ d W2 B sl es) (hrep : Rep (fun b => B < b ∧ sl.ownBlock ≠ some b) d W2 x l f)
    (hown : W3.ownsRow (B + 1) 31 5 v' (es.length + 1) (encEs es ++ [.int .i64 x.kind, .int .i64 x.num, .string x.text, l, f])) (hg : W2.grownBy W3 sl.ownBlock) (hv : sl.ownBlock = v'.ownBlock ∨ v'.ownBlock = some W2.heap.size) : GrowsJ d W3 B v' (es ++ [⟨x, l, f⟩]) := by
  have hm : ∀ b, (B < b ∧ sl.ownBlock ≠ some b) → b < W2.heap.size → (B < b ∧ v'.ownBlock ≠ some b) ∧ W3.heap[b]? = W2.heap[b]? := by
    intro b h1 h2
    refine ⟨⟨h1.1, ?_⟩, hg.block b h2 (fun e => h1.2 e.symm)⟩
    rcases hv with e | e
    · rw [← e]; exact h1.2
    · rw [e]
      intro e2
      have := Option.some.inj e2
      omega
  refine ⟨?_, ?_⟩
  · rw [encEs_append, List.length_append]; exact hown
  · intro e he
    rcases List.mem_append.1 he with he | he
    · exact (h.rep e he).move hm
    · rw [List.mem_singleton.1 he]; exact hrep.move hm

/-- value, so deep. -/
def ValueAt (n : Nat) (D : Int) : Prop := ∀ (w0 : World) (b : Nat) (s : ByteArray) (k : Nat) (w : World), Rd w0 b s k w → Calls Tryz.prog 19 #[.pointer (some ⟨b, 0, none⟩), .int .i64 D] w (Ans w0 b s n w (valueP n (s.data.toList.drop k)))

def lift (r : Except Int (List V × List UInt8)) : Except Int (V × List UInt8) :=
  match r with
  | .error e => .error e
  | .ok r => .ok (listV r.1, r.2)

/-- a list that is being read. -/
structure LSt (w0 : World) (b : Nat) (s : ByteArray) (n : Nat) (w : World) (r : Except Int (V × List UInt8)) (gg : Nat) (p : Bool) (es : List El) (sl : Value) (wr : World) : Prop where
  kept : Kept b w wr
  row0 : wr.heap[w.heap.size]? = some (.cells #[.int .i64 0, .int .i64 0, .string ⟨#[]⟩, .slice none 0 0, .slice none 0 0] 31 (0, 0))
  row1 : wr.heap[w.heap.size + 1]? = some (.cells #[.int .i64 4, .int .i64 0, .string ⟨#[]⟩, sl, .slice none 0 0] 31 (0, 0))
  grows : GrowsJ n wr (w.heap.size + 1) sl es
  st : ∃ k', Rd w0 b s k' wr ∧ es.length ≤ k' ∧ (p = true → r = .ok (listV (es.map El.v), s.data.toList.drop k')) ∧
    (p = false → s.size - k' < gg ∧ ∃ m, (s.data.toList.drop k').length < m ∧ r = lift (elemsP (valueP n) m (es.map El.v) (s.data.toList.drop k')))
end Go.Proofs.YtdcaohnaiepllaaGreatDoor
