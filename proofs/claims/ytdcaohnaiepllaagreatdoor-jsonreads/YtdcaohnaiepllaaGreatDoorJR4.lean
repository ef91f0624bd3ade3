/-
  The program's reader of JSON: numbers. Conditions: as stated (texts of at most 4096 bytes).
-/
import Derived.Test.YtdcaohnaiepllaaGreatDoorJR3
namespace Go.Proofs.YtdcaohnaiepllaaGreatDoor
open Go.RowKit Go.Extern.Stop Go.Stop Go.Extern

theorem cut_list {s : ByteArray} {l : List UInt8} (h : s.data.toList = l) (a b : Nat) : (s.extract a b).data.toList = (l.drop a).take (b - a) := by
  subst h
  rw [ByteArray.data_extract, Array.toList_extract]

theorem take_at {w0 w : World} {b k : Nat} {s : ByteArray} (R : Rd w0 b s k w) (c : UInt8) (hc : c.toNat ≠ 0) {p : Bool} (hp : decide (hd (s.data.toList.drop k) = c.toNat) = p) :
    Calls Tryz.prog 61 #[.pointer (some ⟨b, 0, none⟩), .string ⟨#[c]⟩] w fun e w' => e = .returned (.bool p) ∧ Kept b w w' ∧ Rd w0 b s (k + p.toNat) w' := by
  refine (take_any R ⟨#[c]⟩ (by show (1 : Nat) ≤ 100; decide) (p := p) (by rw [← hp]; exact has_one _ c hc)).mono ?_
  rintro e w' ⟨rfl, hk, hR⟩
  refine ⟨rfl, hk, ?_⟩
  cases p
  · exact hR
  · exact hR

theorem digs_hd {l : List UInt8} (h : 48 ≤ hd l ∧ hd l ≤ 57) : ∃ b t, l = b :: t ∧ digs l = digs t + 1 := by
  cases l with
  | nil => simp only [hd] at h; omega
  | cons b t => exact ⟨b, t, rfl, if_pos h⟩
theorem digs_no {l : List UInt8} (h : ¬ (48 ≤ hd l ∧ hd l ≤ 57)) : digs l = 0 := by
  cases l with
  | nil => rfl
  | cons b t => exact if_neg h
theorem digs_le : ∀ l : List UInt8, digs l ≤ l.length
  | [] => Nat.le_refl _
  | b :: t => by
    have := digs_le t
    simp only [digs, List.length_cons]
    split <;> omega

/-- what is answered for digits. -/
def AnsD (w0 : World) (b : Nat) (s : ByteArray) (W : World) (k : Nat) (r : Option Nat) (e : Ending) (w' : World) : Prop :=
  Kept b W w' ∧
  match r with
  | none => e = .returned (.bool false) ∧ ∃ k', Rd w0 b s k' w'
  | some n => e = .returned (.bool true) ∧ Rd w0 b s (k + n) w'

set_option maxHeartbeats 2000000 in
theorem digits_any {w0 w : World} {b k : Nat} {s : ByteArray} (R : Rd w0 b s k w) :
    Calls Tryz.prog 62 #[.pointer (some ⟨b, 0, none⟩)] w (AnsD w0 b s w k (digN (s.data.toList.drop k))) := by
  obtain ⟨RR, hRR⟩ : ∃ r, digN (s.data.toList.drop k) = r := ⟨_, rfl⟩
  rw [hRR]
  have HW := (show Hid _ from And.intro hRR R)
  clear hRR
  by_cases h0 : hd (s.data.toList.drop k) = 48
  · have htk := take_at R 48 (by decide) (p := true) (decide_eq_true h0)
    have H0 := (show Hid _ from h0)
    clear R h0
    go_enter Tryz.func62, Tryz.ntmps62
    go_wp2_with fail
    refine htk.mono ?_
    rintro e w1 ⟨rfl, K1, R1⟩
    obtain ⟨c, hc⟩ : ∃ c : Int, ((hd (s.data.toList.drop (k + true.toNat)) : Nat) : Int) = c := ⟨_, rfl⟩
    have hp := peek_any R1 hc
    have HC := (show Hid _ from hc)
    clear hc htk
    go_wp2_with fail
    refine hp.mono ?_
    rintro e w2 ⟨rfl, hb2⟩
    go_wp2_with fail
    refine (jdigit_any c _).mono ?_
    rintro e w3 ⟨rfl, rfl⟩
    have R2 := R1.same hb2
    have K2 := K1.trans (Kept.of_below hb2)
    have HX := (show Hid _ from And.intro R2 K2)
    obtain ⟨q, hq⟩ : ∃ q, decide (48 ≤ c ∧ c ≤ 57) = q := ⟨_, rfl⟩
    have HQ := (show Hid _ from hq)
    rw [hq]
    clear R2 K2 R1 K1 hb2 hq hp
    go_wp2_with fail
    go_ret
    obtain ⟨R2, K2⟩ := HX.out
    obtain ⟨hr, R⟩ := HW.out
    have h0 := H0.out
    refine ⟨K2, ?_⟩
    rw [← hr]
    unfold digN
    rw [if_pos h0]
    have hc : ((hd ((s.data.toList.drop k).drop 1) : Nat) : Int) = c := by rw [List.drop_drop]; exact HC.out
    cases q
    · have h := of_decide_eq_false HQ.out
      rw [if_neg (by omega)]
      exact ⟨rfl, R2⟩
    · have h := of_decide_eq_true HQ.out
      rw [if_pos (by omega)]
      exact ⟨rfl, _, R2⟩
  · have htk := take_at R 48 (by decide) (p := false) (decide_eq_false h0)
    have H0 := (show Hid _ from h0)
    clear R h0
    go_enter Tryz.func62, Tryz.ntmps62
    go_wp2_with fail
    refine htk.mono ?_
    rintro e w1 ⟨rfl, K1, R1⟩
    have R1 : Rd w0 b s k w1 := R1
    obtain ⟨c0, c1, cf, hb⟩ := R1.cells
    have HX := (show Hid _ from And.intro R1 K1)
    clear htk R1 K1 cf
    go_wp2_with fail
    go_loopg [] s.size (fun gg wr => ∃ k', k ≤ k' ∧ s.size - k' ≤ gg ∧ Rd w0 b s k' wr ∧ Kept b w wr ∧ digs (s.data.toList.drop k) = digs (s.data.toList.drop k') + (k' - k))
    case atStart =>
      obtain ⟨R1, K1⟩ := HX.out
      exact ⟨k, Nat.le_refl _, by omega, R1, K1, by omega⟩
    case round =>
      obtain ⟨k', hk, hgg, R', K', hsk⟩ := hrel
      obtain ⟨c, hc⟩ : ∃ c : Int, ((hd (s.data.toList.drop k') : Nat) : Int) = c := ⟨_, rfl⟩
      have hp := peek_any R' hc
      by_cases hdg : 48 ≤ c ∧ c ≤ 57
      · have hlt : k' < s.size := by
          by_cases h : k' < s.size
          · exact h
          · rw [hd_end h] at hc
            simp only [hd] at hc
            omega
        obtain ⟨x, _, hx⟩ := hd_at hlt
        have hg : digs (s.data.toList.drop k') = digs (s.data.toList.drop (k' + 1)) + 1 := by
          obtain ⟨b1, t1, e1, e2⟩ := digs_hd (l := s.data.toList.drop k') (by omega)
          rw [hx] at e1
          injection e1 with _ e3
          rw [e2, e3]
        have hw64 : (k' : Int) + 1 ≤ 5000 := by have := R'.hs; omega
        have HS := (show Hid _ from And.intro hsk (And.intro hk (And.intro hgg (And.intro hlt (And.intro hg (And.intro R' K'))))))
        have hdt := decide_eq_true hdg
        have hjd := fun W => jdigit_any c W
        rw [hdt] at hjd
        clear hsk hk hgg hg hc hx hdg hdt
        go_wp2_with fail
        refine hp.mono ?_
        rintro e w2 ⟨rfl, hb2⟩
        go_wp2_with fail
        refine (hjd _).mono ?_
        rintro e w3 ⟨rfl, rfl⟩
        have R2 := R'.same hb2
        obtain ⟨d0, d1, df, hdb⟩ := R2.cells
        have HY := (show Hid _ from And.intro R2 hb2)
        clear R' K' R2 hb2 hp hjd
        go_wp2_with fail
        go_roundg (s.size - (k' + 1))
        case measure => have := HS.out; omega
        case rel =>
          obtain ⟨hsk, hk, hgg, hlt, hg, R', K'⟩ := HS.out
          obtain ⟨R2, hb2⟩ := HY.out
          refine ⟨k' + 1, by omega, by omega, R2.set (k' := k' + 1) (by omega), (K'.trans (Kept.of_below hb2)).trans (Kept.set _), by omega⟩
      · have hg := digs_no (l := s.data.toList.drop k') (by omega)
        have hdt := decide_eq_false hdg
        have hjd := fun W => jdigit_any c W
        rw [hdt] at hjd
        have HS := (show Hid _ from And.intro hsk (And.intro hk (And.intro hg (And.intro R' K'))))
        clear hsk hk hgg hg hc hdg hdt
        go_wp2_with fail
        refine hp.mono ?_
        rintro e w2 ⟨rfl, hb2⟩
        go_wp2_with fail
        refine (hjd _).mono ?_
        rintro e w3 ⟨rfl, rfl⟩
        have R2 := R'.same hb2
        obtain ⟨d0, d1, df, hdb⟩ := R2.cells
        have HY := (show Hid _ from And.intro R2 hb2)
        clear R' K' R2 hb2 hp hjd
        by_cases hz : k < k'
        · have z1 : (k : Int) < (k' : Int) := by omega
          have z2 : ¬ (k' : Int) ≤ (k : Int) := by omega
          go_wp2_with fail
          go_ret
          obtain ⟨hsk, hk, hg, R', K'⟩ := HS.out
          obtain ⟨R2, hb2⟩ := HY.out
          refine ⟨K'.trans (Kept.of_below hb2), ?_⟩
          rw [← HW.out.1]
          unfold digN
          rw [if_neg H0.out, if_neg (by omega)]
          refine ⟨rfl, ?_⟩
          rw [show k + digs (s.data.toList.drop k) = k' by omega]
          exact R2
        · have z0 : (k' : Int) = (k : Int) := by have := HS.out.2.1; omega
          have z1 : ¬ (k : Int) < (k' : Int) := by omega
          have z2 : (k' : Int) ≤ (k : Int) := by omega
          clear z0
          go_wp2_with fail
          go_ret
          obtain ⟨hsk, hk, hg, R', K'⟩ := HS.out
          obtain ⟨R2, hb2⟩ := HY.out
          refine ⟨K'.trans (Kept.of_below hb2), ?_⟩
          rw [← HW.out.1]
          unfold digN
          rw [if_neg H0.out, if_pos (by omega)]
          exact ⟨rfl, _, R2⟩
end Go.Proofs.YtdcaohnaiepllaaGreatDoor
