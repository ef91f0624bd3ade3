/-
  The program's reader of keys: a Bool. Conditions: as stated.
-/
import Derived.Test.YtehjdamdlokoaaaDoorKC
namespace Go.Proofs.YtehjdamdlokoaaaDoor
open Go.RowKit
set_option maxRecDepth 100000 in
set_option maxHeartbeats 4000000 in
theorem value_bool (n : Nat) (D : Int) (hD : D ≤ 16) {w0 w : World} {b : Nat} {c : UInt8} {r : List UInt8} (R : RdK w0 b (c :: r) w) (hk0 : (c.toNat : Int) - 1 = 1) :
    Calls Tryd.prog 24 #[.pointer (some ⟨b, 0, none⟩), .int .i64 D] w (ValA w0 b w n (kindK (valueK 0) 1 r)) := by
  have hn := next_cons (R.al (o := .cells #[.int .i64 0, .int .i64 0, .string ⟨#[]⟩, .slice none 0 0, .slice none 0 0] 28))
  have hlt := R.lt
  have hB0 : w.heap.size ≤ w.heap.size := Nat.le_refl _
  obtain ⟨C, hC⟩ : ∃ C : Int, (c.toNat : Int) = C := ⟨_, rfl⟩
  rw [hC] at hn hk0
  have hc256 := c.toNat_lt
  have hw : wrap64 (wrap64 C - 1) = 1 := by unfold wrap64; omega
  have HW := (show Hid _ from R.below.size)
  clear R hC hc256 hk0
  go_enter Tryd.func24, Tryd.ntmps24
  go_wp2_with fail
  refine hn.mono ?_
  rintro e w1 ⟨rfl, K1, R1⟩
  have V1 := VlK.begin hlt K1 R1 1
  have hnum : Calls Tryd.prog 36 #[.pointer (some ⟨b, 0, none⟩), .int .i64 1] _ _ := number_any V1.rd 1 (by decide)
  obtain ⟨j0, j1, j2, j3, j4, jf⟩ := row5 (K1.mem (heap_alloc_new w _) (by omega))
  have hlt2 : w.heap.size < w1.heap.size := V1.new
  have hne : w.heap.size ≠ w1.heap.size := by omega
  have hne2 : w1.heap.size ≠ w.heap.size := by omega
  have H1 := (show Hid _ from V1)
  clear hn K1 R1 V1
  go_wp2_with fail
  refine hnum.mono ?_
  rintro e w2 ⟨K2, h2⟩
  have V2 := H1.out.over K2
  obtain ⟨j0, j1, j2, j3, j4, jf⟩ := row5 V2.row
  obtain ⟨i0, i1, i2, i3, i4, hif⟩ := row5 V2.own
  have hlt3 := lt_of_heap V2.row
  have hlt4 := lt_of_heap V2.own
  have HV := (show Hid _ from V2.kept)
  have hwb := HW.out
  clear hnum K2 V2
  rcases h2 with ⟨hlen, rfl⟩ | ⟨hlen, rfl, R2⟩
  · go_wp2_with fail
    refine bodyPost_ret (v := .tuple #[.agg #[.int .i64 1, .int .i64 0, .string ⟨#[]⟩, .slice none 0 0, .slice none 0 0], .bool false]) (by simp [results, Tryd.results24, go_sem, j0, j1, j2, j3, j4]) rfl ?_
    have hk := HV.out
    have hB : w.heap.size ≤ w1.heap.size := by omega
    rw [kindK, if_pos rfl, if_pos hlen]
    refine ⟨?_, _, _, _, rfl⟩
    repeat (with_reducible first | exact hk | refine KeptB.setc ?_ (Nat.le_refl _) | refine KeptB.setc ?_ hB | refine KeptB.al ?_)
  · obtain ⟨M, hM⟩ : ∃ M : Int, wrap64 (numL (r.take 1) : Int) = M := ⟨_, rfl⟩
    have HM := (show Hid _ from And.intro hM R2)
    rw [hM]
    clear hM R2
    go_wp2_with fail
    refine bodyPost_ret (v := .tuple #[.agg #[.int .i64 1, .int .i64 M, .string ⟨#[]⟩, .slice none 0 0, .slice none 0 0], .bool true]) (by simp [results, Tryd.results24, go_sem, j0, j1, j2, j3, j4]) rfl ?_
    have hk := HV.out
    have hr := HM.out.2
    have hB : w.heap.size ≤ w1.heap.size := by omega
    have hnb : w.heap.size ≠ b := by omega
    have hnb2 : w1.heap.size ≠ b := by omega
    have hwb2 : w0.heap.size ≤ w1.heap.size := by omega
    rw [kindK, if_pos rfl, if_neg (by omega), HM.out.1]
    refine ⟨?_, _, _, rfl, rep_bare _ _ _ _, ?_⟩
    · repeat (with_reducible first | exact hk | refine KeptB.setc ?_ (Nat.le_refl _) | refine KeptB.setc ?_ hB | refine KeptB.al ?_)
    · repeat (with_reducible first | exact hr | refine RdK.setc ?_ hnb hwb | refine RdK.setc ?_ hnb2 hwb2 | refine RdK.al ?_)
end Go.Proofs.YtehjdamdlokoaaaDoor
