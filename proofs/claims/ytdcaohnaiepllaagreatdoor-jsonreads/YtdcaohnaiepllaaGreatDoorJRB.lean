/-
  The program's Parse by its contract: it answers what the plain function reads. Conditions: as stated.
-/
import Derived.Test.YtdcaohnaiepllaaGreatDoorJRA
namespace Go.Proofs.YtdcaohnaiepllaaGreatDoor
open Go.RowKit Go.Extern.Stop Go.Stop Go.Extern

/-- what Parse answers. -/
def AnsP (W : World) (r : Except Int V) (e : Ending) (w' : World) : Prop :=
  Below W.heap.size W w' ∧
  match r with
  | .error c => ∃ x, e = .returned (.tuple #[zeroA, x]) ∧ Flt c w' x
  | .ok v => ∃ l f, e = .returned (.tuple #[.agg #[.int .i64 v.kind, .int .i64 v.num, .string v.text, l, f], .nilIface]) ∧ Rep (fun k => W.heap.size ≤ k) 16 w' v l f

theorem AnsP.err {W w1 : World} {c : Int} {x : Value} {r : Except Int V} (hb : Below W.heap.size W w1) (hx : Flt c w1 x) (r0 : w1.heap[W.heap.size]? = some (.cells #[.int .i64 0, .int .i64 0, .string ⟨#[]⟩, .slice none 0 0, .slice none 0 0] 31 (0, 0))) (hr : r = .error c) (i0 i1 i2 i3 i4 : Nat) (a0 a1 a2 a3 a4 : Value) :
    AnsP W r (.returned (.tuple #[zeroA, x])) (set5W w1 W.heap.size i0 i1 i2 i3 i4 a0 a1 a2 a3 a4) := by
  subst hr
  exact ⟨set5W_below hb (Nat.le_refl _) _ _ _ _ _ _ _ _ _ _, x, rfl, hx.set5 r0 (by decide) _ _ _ _ _ _ _ _ _ _⟩
theorem AnsP.more {W w' w'' : World} {r : Except Int V} {e : Ending} (h : AnsP W r e w') (hb : Below w'.heap.size w' w'') : AnsP W r e w'' := by
  obtain ⟨K, h⟩ := h
  refine ⟨K.trans (hb.mono K.size), ?_⟩
  cases r with
  | error c =>
    obtain ⟨x, e1, hx⟩ := h
    exact ⟨x, e1, hx.below hb⟩
  | ok r =>
    obtain ⟨l, f, e1, hr⟩ := h
    exact ⟨l, f, e1, hr.below hb⟩

set_option maxRecDepth 100000 in
set_option maxHeartbeats 4000000 in
theorem Parse_any (s : ByteArray) (w : World) (hE : JEnv w) : Calls Tryz.prog 10 #[.string s] w (AnsP w (parseP s.data.toList)) := by
  obtain ⟨RR, hRR⟩ : ∃ r, parseP s.data.toList = r := ⟨_, rfl⟩
  rw [hRR]
  obtain ⟨O0, hO0⟩ : ∃ O, O = Obj.cells #[.int .i64 0, .int .i64 0, .string ⟨#[]⟩, .slice none 0 0, .slice none 0 0] 31 := ⟨_, rfl⟩
  by_cases hbig : 4096 < s.size
  · have z1 : (4096 : Int) < (s.size : Int) := by omega
    have HW := (show Hid _ from And.intro hRR hbig)
    clear hRR hbig
    go_enter Tryz.func10, Tryz.ntmps10
    go_wp2_with fail
    refine (New_some 3 rfl _ _).mono ?_
    rintro e w2 ⟨rfl, rfl⟩
    have hBw : Below w.heap.size w (w.alloc (.cells #[.int .i64 0, .int .i64 0, .string ⟨#[]⟩, .slice none 0 0, .slice none 0 0] 31)) := (Below.refl _ _).alloc (Nat.le_refl _) _
    obtain ⟨w1, hw1⟩ : ∃ w1, w1 = w.alloc (.cells #[.int .i64 0, .int .i64 0, .string ⟨#[]⟩, .slice none 0 0, .slice none 0 0] 31) := ⟨_, rfl⟩
    rw [← hw1] at hBw ⊢
    have r1 : w1.heap[w.heap.size]? = some (.cells #[.int .i64 0, .int .i64 0, .string ⟨#[]⟩, .slice none 0 0, .slice none 0 0] 31 (0, 0)) := by rw [hw1]; exact heap_alloc_new w _
    obtain ⟨w3, hw3⟩ : ∃ w3, w3 = w1.alloc (.cells #[.string ⟨#[106, 115, 111, 110]⟩, .iface 38 (.int .i64 3)] 77) := ⟨_, rfl⟩
    have hB13 : Below w1.heap.size w1 w3 := by rw [hw3]; exact (Below.refl _ _).alloc (Nat.le_refl _) _
    have hflt : Flt 3 w3 (.iface 75 (.pointer (some ⟨w1.heap.size, 0, none⟩))) := by
      refine ⟨[⟨#[106, 115, 111, 110]⟩], _, _, rfl, ?_, rfl⟩
      rw [hw3]
      show (Array.push _ _)[_]? = _
      rw [Array.getElem?_push, if_pos rfl]
    rw [← hw3]
    have r3 := (hB13.block _ (lt_of_heap r1)).trans r1
    have hB3 := hBw.trans (hB13.mono hBw.size)
    obtain ⟨j0, j1, j2, j3, j4, jf⟩ := row5 r3
    have HX := (show Hid _ from And.intro hB3 (And.intro hflt r3))
    clear hBw r1 hB13 hflt r3 hB3 hw1 hw3
    go_wp2
    obtain ⟨hB3, hflt, r3⟩ := HX.out
    refine bodyPost_ret (v := .tuple #[zeroA, .iface 75 (.pointer (some ⟨w1.heap.size, 0, none⟩))]) (by simp [results, Tryz.results10, go_sem, j0, j1, j2, j3, j4]) rfl (AnsP.err hB3 hflt r3 ?_ 0 1 2 3 4 _ _ _ _ _)
    rw [← HW.out.1]
    unfold parseP
    exact if_pos (by rw [← size_list (s := s) rfl]; exact HW.out.2)
  · have z1 : ¬ (4096 : Int) < (s.size : Int) := by omega
    have hpv : RR = match valueP 16 s.data.toList with | .error e => .error e | .ok r => if skip r.2 = [] then .ok r.1 else .error 1 := by
      rw [← hRR]
      unfold parseP
      rw [if_neg (by rw [← size_list (s := s) rfl]; exact hbig)]
      rfl
    obtain ⟨O1, hO1⟩ : ∃ O, O = Obj.cells #[.string s, .int .i64 0] 55 := ⟨_, rfl⟩
    have hB2 : Below w.heap.size w ((w.alloc O0).alloc O1) := ((Below.refl _ _).alloc (Nat.le_refl _) _).alloc (by simp) _
    have R0 : Rd w (w.heap.size + 1) s 0 ((w.alloc O0).alloc O1) := ⟨hE, hB2, by omega, by rw [heap_alloc2_new, hO1]; rfl, Nat.zero_le _, by omega⟩
    have hcall := value_any 16 (by omega) w (w.heap.size + 1) s 0 ((w.alloc O0).alloc O1) R0
    obtain ⟨rv, hrv⟩ : ∃ r, valueP 16 (s.data.toList.drop 0) = r := ⟨_, rfl⟩
    rw [hrv, hO0, hO1, show (17 - ((16 : Nat) : Int)) = 1 from rfl] at hcall
    rw [show s.data.toList = s.data.toList.drop 0 from rfl, hrv] at hpv
    have HW := (show Hid _ from And.intro hpv (And.intro hO0 (And.intro hO1 hB2)))
    clear hRR hpv hO0 hO1 hB2 R0 hrv hbig
    go_enter Tryz.func10, Tryz.ntmps10
    go_wp2_with fail
    refine hcall.mono ?_
    rintro e w3 hA
    have hK := hA.1
    obtain ⟨hpv, hO0, hO1, hB2⟩ := HW.out
    rw [← hO0, ← hO1] at hA hK
    have r0 : w3.heap[w.heap.size]? = some (.cells #[.int .i64 0, .int .i64 0, .string ⟨#[]⟩, .slice none 0 0, .slice none 0 0] 31 (0, 0)) := by rw [hK.block _ (by simp; omega) (by omega), heap_alloc2_old, hO0]
    have hB3 : Below w.heap.size w w3 := hB2.trans (hK.below (by omega) (by simp; omega))
    obtain ⟨j0, j1, j2, j3, j4, jf⟩ := row5 r0
    have hlt0 := lt_of_heap r0
    clear hcall
    cases rv with
    | error c =>
      obtain ⟨_, x, rfl, hx⟩ := hA
      obtain ⟨u, z, rfl⟩ := hx.iface
      have HX := (show Hid _ from And.intro hx (And.intro hB3 r0))
      clear hx hB3 r0 hpv hO0 hO1 hB2 hK
      go_wp2
      obtain ⟨hx, hB3, r0⟩ := HX.out
      obtain ⟨q0, q1, q2, q3, q4⟩ := cells_set5 r0 (.cells #[.int .i64 0, .int .i64 0, .string ⟨#[]⟩, .slice none 0 0, .slice none 0 0] 31) (.int .i64 0) (.int .i64 0) (.string ⟨#[]⟩) (.slice none 0 0) (.slice none 0 0)
      exact bodyPost_ret (v := .tuple #[zeroA, .iface u z]) (by simp [results, Tryz.results10, go_sem, q0, q1, q2, q3, q4]) rfl ((AnsP.err hB3 hx r0 HW.out.1 0 1 2 3 4 _ _ _ _ _).more ((Below.refl _ _).alloc (Nat.le_refl _) _))
    | ok rv =>
      obtain ⟨_, l, f, rfl, hrx, k3, R3, hd3⟩ := hA
      obtain ⟨bl, dl, bf, df, rfl, rfl⟩ := hrx.slices
      obtain ⟨x, rest⟩ := rv
      simp only at hrx hd3 hpv ⊢
      obtain ⟨O2, hO2⟩ : ∃ O, O = Obj.cells #[.int .i64 x.kind, .int .i64 x.num, .string x.text, .slice bl x.list.length dl, .slice bf x.fields.length df] 31 := ⟨_, rfl⟩
      have hA4 : Below w3.heap.size w3 (w3.alloc O2) := (Below.refl _ _).alloc (Nat.le_refl _) _
      have hbl := blanks_any (R3.same hA4)
      have hsz3 := hK.size
      rw [hO2] at hbl
      have H3 := (show Hid _ from And.intro hrx (And.intro R3 (And.intro hd3 (And.intro hB3 (And.intro r0 (And.intro hO2 (And.intro hA4 hsz3)))))))
      clear hrx R3 hd3 hB3 r0 hO2 hA4 hpv hO0 hO1 hB2 hK hsz3 j0 j1 j2 j3 j4 jf
      go_wp2_with fail
      refine hbl.mono ?_
      rintro e w4 ⟨rfl, K4, k4, _, R4, hd4⟩
      obtain ⟨hrx, R3, hd3, hB3, r0, hO2, hA4, hsz3⟩ := H3.out
      rw [← hO2] at K4
      have hz0 : w.heap.size + 2 ≤ w3.heap.size := by simpa using hsz3
      have r4 := (K4.block _ (by simp; omega) (by omega)).trans ((hA4.block _ (lt_of_heap r0)).trans r0)
      have v4 : w4.heap[w3.heap.size]? = some (.cells #[.int .i64 x.kind, .int .i64 x.num, .string x.text, .slice bl x.list.length dl, .slice bf x.fields.length df] 31 (0, 0)) := by rw [K4.block _ (by simp) (by omega), heap_alloc_new, hO2]
      have hB4 : Below w.heap.size w w4 := (hB3.trans (hA4.mono (by omega))).trans (K4.below (by omega) (by simp; omega))
      obtain ⟨c0, c1, cf, hcb⟩ := R4.cells
      have hk4 := R4.hk
      clear hbl
      by_cases hend : k4 < s.size
      · have z2 : (k4 : Int) < (s.size : Int) := by omega
        have hwr := wrongV_any R4 1 rfl
        have hsk : skip rest ≠ [] := by
          rw [← hd3, ← hd4]
          intro h
          have := len_drop (s := s) (k := k4)
          rw [h] at this
          simp at this
          omega
        have H4 := (show Hid _ from And.intro hB4 (And.intro r4 hsk))
        clear hrx R3 hd3 hB3 r0 hO2 hA4 hsz3 K4 R4 hd4 r4 v4 hB4 hsk
        go_wp2_with fail
        refine hwr.mono ?_
        rintro e w5 ⟨x', rfl, hx, hb5⟩
        obtain ⟨hB4, r4, hsk⟩ := H4.out
        have r5 := (hb5.block _ (lt_of_heap r4)).trans r4
        have hB5 := hB4.trans (hb5.mono hB4.size)
        obtain ⟨j0, j1, j2, j3, j4, jf⟩ := row5 r5
        obtain ⟨u, z, rfl⟩ := hx.iface
        have HX := (show Hid _ from And.intro hx (And.intro hB5 r5))
        clear hx hB5 r5 hB4 r4 hb5 hwr
        go_wp2
        obtain ⟨hx, hB5, r5⟩ := HX.out
        refine bodyPost_ret (v := .tuple #[zeroA, .iface u z]) (by simp [results, Tryz.results10, go_sem, j0, j1, j2, j3, j4]) rfl (AnsP.err hB5 hx r5 ?_ 0 1 2 3 4 _ _ _ _ _)
        rw [HW.out.1]
        exact if_neg hsk
      · have z2 : ¬ (k4 : Int) < (s.size : Int) := by omega
        have hsk : skip rest = [] := by
          rw [← hd3, ← hd4]
          exact hd_end hend
        obtain ⟨j0, j1, j2, j3, j4, jf⟩ := row5 r4
        obtain ⟨m0, m1, m2, m3, m4, mf⟩ := row5 v4
        have hrx4 : Rep (fun k => w.heap.size + 2 ≤ k) 16 w4 x (.slice bl x.list.length dl) (.slice bf x.fields.length df) := hrx.move fun c hc hl => by
          have hc' : w.heap.size + 2 ≤ c := by simpa using hc
          exact ⟨hc', (K4.block c (by have := hA4.size; omega) (by omega)).trans (hA4.block c hl)⟩
        have H4 := (show Hid _ from And.intro hB4 (And.intro hrx4 hsk))
        have hne34 : w3.heap.size ≠ w.heap.size := by omega
        have hlt4 := lt_of_heap v4
        clear hrx R3 hd3 hB3 r0 hO2 hA4 hsz3 K4 R4 hd4 r4 v4 hB4 hsk hrx4
        go_wp2
        obtain ⟨hB4, hrx4, hsk⟩ := H4.out
        refine bodyPost_ret (v := .tuple #[.agg #[.int .i64 x.kind, .int .i64 x.num, .string x.text, .slice bl x.list.length dl, .slice bf x.fields.length df], .nilIface]) (by simp [results, Tryz.results10, go_sem, j0, j1, j2, j3, j4]) rfl ?_
        rw [HW.out.1]
        show AnsP w (if skip rest = [] then .ok x else .error 1) _ _
        rw [if_pos hsk]
        exact ⟨set5W_below hB4 (Nat.le_refl _) 0 1 2 3 4 _ _ _ _ _, _, _, rfl, hrx4.move fun c hc _ => ⟨by omega, set5W_ne _ _ 0 1 2 3 4 _ _ _ _ _ (by omega)⟩⟩
end Go.Proofs.YtdcaohnaiepllaaGreatDoor
