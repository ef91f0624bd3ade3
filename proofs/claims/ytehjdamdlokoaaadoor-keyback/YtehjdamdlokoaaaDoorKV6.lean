/-
  The program's reader of keys: a List. Conditions: as stated.
-/
import Derived.Test.YtehjdamdlokoaaaDoorKC
namespace Go.Proofs.YtehjdamdlokoaaaDoor
open Go.RowKit
set_option maxRecDepth 100000 in
set_option maxHeartbeats 4000000 in
theorem value_list (n : Nat) (D : Int) (hD : D ≤ 16) {w0 w : World} {b : Nat} {c : UInt8} {r : List UInt8} (R : RdK w0 b (c :: r) w) (hk0 : (c.toNat : Int) - 1 = 4) (D2 : Int) (hD2 : wrap64 (D + 1) = D2) (ih : ∀ (w0 : World) (b : Nat) (l : List UInt8) (w : World), RdK w0 b l w → Calls Tryd.prog 24 #[.pointer (some ⟨b, 0, none⟩), .int .i64 D2] w (ValA w0 b w n (valueK n l))) :
    Calls Tryd.prog 24 #[.pointer (some ⟨b, 0, none⟩), .int .i64 D] w (ValA w0 b w (n + 1) (kindK (valueK n) 4 r)) := by
  obtain ⟨tx, htx⟩ : ∃ t, rowK (valueK n) (r.length + 1) r = t := ⟨_, rfl⟩
  have hn := next_cons (R.al (o := .cells #[.int .i64 0, .int .i64 0, .string ⟨#[]⟩, .slice none 0 0, .slice none 0 0] 28))
  have hlt := R.lt
  have hB0 : w.heap.size ≤ w.heap.size := Nat.le_refl _
  obtain ⟨C, hC⟩ : ∃ C : Int, (c.toNat : Int) = C := ⟨_, rfl⟩
  rw [hC] at hn hk0
  have hc256 := c.toNat_lt
  have hw : wrap64 (wrap64 C - 1) = 4 := by unfold wrap64; omega
  have HW := (show Hid _ from R.below.size)
  have HX := (show Hid _ from htx)
  have HI := (show Hid _ from And.intro ih ih)
  clear htx ih R hC hc256 hk0
  go_enter Tryd.func24, Tryd.ntmps24
  go_wp2_with fail
  refine hn.mono ?_
  rintro e w1 ⟨rfl, K1, R1⟩
  have V1 := VlK.begin hlt K1 R1 4
  have hnum : Calls Tryd.prog 39 #[.pointer (some ⟨b, 0, none⟩), .int .i64 D2] _ _ := list_any n D2 HI.out.1 V1.rd
  obtain ⟨j0, j1, j2, j3, j4, jf⟩ := row5 (K1.mem (heap_alloc_new w _) (by omega))
  have hlt2 : w.heap.size < w1.heap.size := V1.new
  have hne : w.heap.size ≠ w1.heap.size := by omega
  have hne2 : w1.heap.size ≠ w.heap.size := by omega
  have H1 := (show Hid _ from V1)
  clear hn K1 R1 V1
  go_wp2_with fail
  refine hnum.mono ?_
  rintro e w2 ⟨K2, h2⟩
  have V2 := H1.out.over K2
  obtain ⟨j0, j1, j2, j3, j4, jf⟩ := row5 V2.row
  obtain ⟨i0, i1, i2, i3, i4, hif⟩ := row5 V2.own
  have hlt3 := lt_of_heap V2.row
  have hlt4 := lt_of_heap V2.own
  have HV := (show Hid _ from V2.kept)
  have hwb := HW.out
  clear hnum V2
  have hs1 : (w1.alloc (.cells #[.int .i64 4, .int .i64 0, .string ⟨#[]⟩, .slice none 0 0, .slice none 0 0] 28)).heap.size = w1.heap.size + 1 := by simp
  clear K2 HI
  rw [HX.out] at h2
  cases tx with
  | none =>
    subst h2
    go_wp2_with fail
    refine bodyPost_ret (v := .tuple #[.agg #[.int .i64 4, .int .i64 0, .string ⟨#[]⟩, .slice none 0 0, .slice none 0 0], .bool false]) (by simp [results, Tryd.results24, go_sem, j0, j1, j2, j3, j4]) rfl ?_
    have hk := HV.out
    have hB : w.heap.size ≤ w1.heap.size := by omega
    rw [kindK, if_neg (by decide), if_neg (by decide), if_neg (by decide), if_pos rfl, HX.out]
    refine ⟨?_, _, _, _, rfl⟩
    repeat (with_reducible first | exact hk | refine KeptB.setc ?_ (Nat.le_refl _) | refine KeptB.setc ?_ hB | refine KeptB.al ?_)
  | some p =>
    obtain ⟨s, es, rfl, hes, hrow, hrep, R2⟩ := h2
    obtain ⟨sa, sc, rfl⟩ := hrow.slice
    have HM := (show Hid _ from And.intro hes (And.intro hrow (And.intro hrep R2)))
    clear hes hrow hrep R2
    go_wp2_with fail
    refine bodyPost_ret (v := .tuple #[.agg #[.int .i64 4, .int .i64 0, .string ⟨#[]⟩, .slice sa es.length sc, .slice none 0 0], .bool true]) (by simp [results, Tryd.results24, go_sem, j0, j1, j2, j3, j4]) rfl ?_
    have hk := HV.out
    have hB : w.heap.size ≤ w1.heap.size := by omega
    have hnb : w.heap.size ≠ b := by omega
    have hnb2 : w1.heap.size ≠ b := by omega
    have hwb2 : w0.heap.size ≤ w1.heap.size := by omega
    obtain ⟨hes, hrow, hrep, hr⟩ := HM.out
    rw [kindK, if_neg (by decide), if_neg (by decide), if_neg (by decide), if_pos rfl, HX.out]
    have hno : ¬ ((w1.alloc (.cells #[.int .i64 4, .int .i64 0, .string ⟨#[]⟩, .slice none 0 0, .slice none 0 0] 28)).heap.size ≤ w.heap.size) := by omega
    have hno2 : ¬ ((w1.alloc (.cells #[.int .i64 4, .int .i64 0, .string ⟨#[]⟩, .slice none 0 0, .slice none 0 0] 28)).heap.size ≤ w1.heap.size) := by omega
    have hq : Rep (fun c => (w1.alloc (.cells #[.int .i64 4, .int .i64 0, .string ⟨#[]⟩, .slice none 0 0, .slice none 0 0] 28)).heap.size ≤ c) (n + 1) w2 ⟨4, 0, ⟨#[]⟩, p.1, []⟩ (.slice sa es.length sc) (.slice none 0 0) := ⟨⟨es, hes, hrow, hrep⟩, ⟨[], rfl, RowAt.nil, fun e he => (by cases he)⟩⟩
    refine ⟨?_, _, _, rfl, ?_, ?_⟩
    · repeat (with_reducible first | exact hk | refine KeptB.setc ?_ (Nat.le_refl _) | refine KeptB.setc ?_ hB | refine KeptB.al ?_)
    · refine Rep.move (ok := fun c => (w1.alloc (.cells #[.int .i64 4, .int .i64 0, .string ⟨#[]⟩, .slice none 0 0, .slice none 0 0] 28)).heap.size ≤ c) (fun c hc _ => ⟨by show w.heap.size ≤ c; omega, rfl⟩) ?_
      repeat (with_reducible first | exact hq | refine Rep.setc ?_ hno | refine Rep.setc ?_ hno2 | refine Rep.al ?_)
    · repeat (with_reducible first | exact hr | refine RdK.setc ?_ hnb hwb | refine RdK.setc ?_ hnb2 hwb2 | refine RdK.al ?_)
end Go.Proofs.YtehjdamdlokoaaaDoor
