/-
  The program's reader of JSON: texts in quotes. Conditions: as stated (texts of at most 4096 bytes).
-/
import Derived.Test.YtdcaohnaiepllaaGreatDoorJR2
namespace Go.Proofs.YtdcaohnaiepllaaGreatDoor
open Go.RowKit Go.Extern.Stop Go.Stop Go.Extern

theorem rd_bound : ∀ (n : Nat) (l out : List UInt8) (k : Nat) (o : List UInt8) (m : Nat), l.length ≤ n → rd l out k = some (o, m) → m ≤ k + l.length
  | n, [], out, k, o, m, _, h => by rw [rd_nil] at h; cases h
  | 0, b :: t, out, k, o, m, hn, h => by simp at hn
  | n + 1, b :: t, out, k, o, m, hn, h => by
    by_cases hb : b.toNat = 34
    · rw [rd_quote b t out k hb] at h
      cases h
      simp only [List.length_cons]; omega
    · cases h1 : one (b :: t) with
      | none => rw [rd_none b t out k hb h1] at h; cases h
      | some cw =>
        obtain ⟨c, w⟩ := cw
        rw [rd_some b t out k c w hb h1] at h
        have hp := one_pos h1
        have hl := one_len (by simp) h1
        have := rd_bound n _ _ _ _ _ (by rw [List.length_drop]; omega) h
        rw [List.length_drop] at this
        omega
theorem readL_bound {l o : List UInt8} {m : Nat} (h : readL l = some (o, m)) : m ≤ l.length := by
  cases l with
  | nil => cases h
  | cons b t =>
    simp only [readL] at h
    split at h
    · have := rd_bound t.length t [] 1 o m (Nat.le_refl _) h
      simp only [List.length_cons]; omega
    · cases h

/-- what is answered for a text. -/
def AnsT (w0 : World) (b : Nat) (s : ByteArray) (W : World) (l : List UInt8) (r : Option (List UInt8 × Nat)) (e : Ending) (w' : World) : Prop :=
  Kept b W w' ∧
  match r with
  | none => ∃ x, e = .returned (.tuple #[.string ⟨#[]⟩, x]) ∧ Flt 1 w' x
  | some r => e = .returned (.tuple #[.string ⟨r.1.toArray⟩, .nilIface]) ∧ ∃ k', Rd w0 b s k' w' ∧ s.data.toList.drop k' = l.drop r.2

theorem Wrap_any (x : Value) (hx : ∃ u z, x = .iface u z) (p : ByteArray) (w : World) : Calls Tryz.prog 87 #[x, .string p] w fun e w' => e = .returned (.iface 75 (.pointer (some ⟨w.heap.size, 0, none⟩))) ∧ w' = w.alloc (.cells #[.string p, x] 77) := by
  obtain ⟨u, z, rfl⟩ := hx
  go_enter Tryz.func87, Tryz.ntmps87
  go_wp2
  go_ret
  exact ⟨rfl, rfl⟩
theorem Bad.iface' {w : World} {v : Value} (h : Bad w v) : ∃ u z, v = .iface u z := by
  obtain ⟨p, h⟩ := h
  exact h.iface

theorem undrew {B : Nat} {w W : World} (h : Below B w.drew W) : Below B w W := ⟨h.os, h.tape, h.output, h.size, h.block⟩

set_option maxHeartbeats 2000000 in
theorem quoted_any {w0 w : World} {b k : Nat} {s : ByteArray} (R : Rd w0 b s k w) {r : Option (List UInt8 × Nat)} (hr : readL (s.data.toList.drop k) = r) :
    Calls Tryz.prog 64 #[.pointer (some ⟨b, 0, none⟩)] w (AnsT w0 b s w (s.data.toList.drop k) r) := by
  obtain ⟨c0, c1, cf, hb⟩ := R.cells
  have hk := R.hk
  have hs := R.hs
  have C0 := fun d os => below_regrown_cell c0 d os
  have C1 := fun d os => below_regrown_cell c1 d os
  have hdl := drop_list (s := s) rfl k
  have hz : (s.extract k s.size).size ≤ 140737488355320 := by rw [size_list hdl, List.length_drop, ← size_list (s := s) rfl]; omega
  have hU := fun W (hW : Below w.heap.size w W) => Unquote_any (s.extract k s.size) hz W (R.now.text.below hW)
  rw [hdl, hr] at hU
  have z0 : (0 : Int) ≤ (k : Int) := by omega
  have z1 : (k : Int) ≤ (s.size : Int) := by omega
  have HK := (show Hid _ from And.intro hk (And.intro hs (And.intro hr R)))
  clear hk hs hdl hz R
  cases r with
  | none =>
    clear hr
    go_enter Tryz.func64, Tryz.ntmps64
    go_wp2_with fail
    go_region_with (go_at_call 86; refine (hU _ (Below.refl _ _).drew).mono ?_; rintro e w' ⟨⟨v, rfl, hv⟩, hb'⟩; obtain ⟨u, z, rfl⟩ := hv.iface'; have HV := (show Hid _ from And.intro hv hb'); clear hv hb')
    all_goals
      have hb1 : Below w.heap.size w w' := undrew HV.out.2
      obtain ⟨hk, hs, hr, R⟩ := HK.out
      have hp := jplace_any (R.same hb1)
      have HR := (show Hid _ from hb1)
      clear hU C0 C1 c0 c1 cf hb hk hs hr R hb1
      go_wp2_with fail
      refine hp.mono ?_
      rintro e w2 ⟨⟨p, rfl⟩, hb2⟩
      go_wp2_with fail
      refine (Wrap_any _ ⟨_, _, rfl⟩ p _).mono ?_
      rintro e w3 ⟨rfl, rfl⟩
      go_wp2_with fail
      go_ret2
      have hb1 := HR.out
      have hb3 := (hb1.trans (hb2.mono hb1.size))
      refine ⟨Kept.of_below (hb3.alloc hb3.size _), _, rfl, ?_⟩
      obtain ⟨q, hq⟩ := (HV.out.1.below hb2).below ((Below.refl _ _).alloc (Nat.le_refl _) _)
      refine ⟨[p, q], _, _, rfl, ?_, hq⟩
      show (Array.push _ _)[_]? = _
      rw [Array.getElem?_push, if_pos rfl]
  | some r =>
    have hm := readL_bound hr
    rw [List.length_drop, ← size_list (s := s) rfl] at hm
    have z2 : (k : Int) + (r.2 : Int) ≤ 5000 := by have := HK.out.2.1; omega
    have HM := (show Hid _ from hm)
    clear hr hm
    go_enter Tryz.func64, Tryz.ntmps64
    go_wp2_with fail
    go_region_with (go_at_call 86; refine (hU _ (Below.refl _ _).drew).mono ?_; rintro e w' ⟨hv, hb'⟩; simp only [Tells] at hv; subst hv; have HV := (show Hid _ from hb'); clear hb')
    all_goals
      have hb1 : Below w.heap.size w w' := undrew HV.out
      obtain ⟨hk, hs, hr, R⟩ := HK.out
      have R1 := R.same hb1
      obtain ⟨d0, d1, df, dd⟩ := R1.cells
      have HR := (show Hid _ from And.intro hb1 R1)
      clear hU C0 C1 c0 c1 cf hb hk hs hr R hb1 R1
      go_wp2_with fail
      go_ret2
      obtain ⟨hb1, R1⟩ := HR.out
      refine ⟨(Kept.of_below hb1).trans (Kept.set _), rfl, k + r.2, ?_, by rw [List.drop_drop]⟩
      exact R1.set (k' := k + r.2) (by have := HM.out; have := HK.out.1; omega)

set_option maxHeartbeats 2000000 in
theorem text_any {w0 w : World} {b k : Nat} {s : ByteArray} (R : Rd w0 b s k w) :
    Calls Tryz.prog 34 #[.pointer (some ⟨b, 0, none⟩)] w (Ans w0 b s 0 w (textP (s.data.toList.drop k))) := by
  have hB : Below w.heap.size w (w.alloc (.cells #[.int .i64 0, .int .i64 0, .string ⟨#[]⟩, .slice none 0 0, .slice none 0 0] 31)) := (Below.refl _ _).alloc (Nat.le_refl _) _
  have R1 := R.same hB
  obtain ⟨r, hr⟩ : ∃ r, readL (s.data.toList.drop k) = r := ⟨_, rfl⟩
  have hq := quoted_any R1 hr
  obtain ⟨RR, hRR⟩ : ∃ r, textP (s.data.toList.drop k) = r := ⟨_, rfl⟩
  rw [hRR]
  have HW := (show Hid _ from And.intro hr hRR)
  have HR0 := (show Hid _ from R)
  clear hr hRR R R1 hB
  cases r with
  | none =>
    go_enter Tryz.func34, Tryz.ntmps34
    go_wp2_with fail
    refine hq.mono ?_
    rintro e w1 ⟨K1, x, rfl, hx⟩
    obtain ⟨r0, K1', hne, hle⟩ := wordRow HR0.out K1
    obtain ⟨j0, j1, j2, j3, j4, jf⟩ := row5 r0
    obtain ⟨u, z, rfl⟩ := hx.iface
    have HX := (show Hid _ from And.intro hx (And.intro K1' r0))
    clear hx K1' r0 hq K1
    go_wp2
    obtain ⟨hx, K1', r0⟩ := HX.out
    obtain ⟨q1, hr⟩ := HW.out
    refine bodyPost_ret (v := .tuple #[zeroA, .iface u z]) (by simp [results, Tryz.results34, go_sem, j0, j1, j2, j3, j4]) rfl (Ans.err hx K1' r0 ?_ 0 1 2 3 4 _ _ _ _ _)
    rw [← hr]
    unfold textP
    rw [q1]
  | some r =>
    go_enter Tryz.func34, Tryz.ntmps34
    go_wp2_with fail
    refine hq.mono ?_
    rintro e w1 ⟨K1, rfl, k1, R1, hd1⟩
    obtain ⟨r0, K1', hne, hle⟩ := wordRow HR0.out K1
    obtain ⟨j0, j1, j2, j3, j4, jf⟩ := row5 r0
    have HX := (show Hid _ from And.intro R1 (And.intro K1' (And.intro hne (And.intro hle hd1))))
    clear R1 K1 K1' r0 hne hle hd1 hq
    go_wp2
    obtain ⟨R1, K1', hne, hle, hd1⟩ := HX.out
    obtain ⟨q1, hr⟩ := HW.out
    refine bodyPost_ret (v := .tuple #[.agg #[.int .i64 3, .int .i64 0, .string ⟨r.1.toArray⟩, .slice none 0 0, .slice none 0 0], .nilIface]) (by simp [results, Tryz.results34, go_sem, j0, j1, j2, j3, j4]) rfl (Ans.leaf R1 K1' hne hle 3 0 ⟨r.1.toArray⟩ ?_ 0 1 2 3 4 _ _ _ _ _)
    rw [← hr]
    unfold textP
    rw [q1, hd1]
    rfl
end Go.Proofs.YtdcaohnaiepllaaGreatDoor
