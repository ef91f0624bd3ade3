/-
  The program's reader of keys: fields that are none. Conditions: as stated.
-/
import Derived.Test.YtehjdamdlokoaaaDoorKC
namespace Go.Proofs.YtehjdamdlokoaaaDoor
open Go.RowKit
set_option maxRecDepth 100000 in
set_option maxHeartbeats 4000000 in
theorem field_no (n : Nat) (D : Int) {w0 w : World} {b : Nat} {l : List UInt8} (R : RdK w0 b l w) (h0 : ¬ l.head? = some 1) :
    Calls Tryd.prog 49 #[.pointer (some ⟨b, 0, none⟩), .int .i64 D] w (FldA w0 b w n none) := by
  have F := FdK.begin R
  have ht := take_not1 F.rd h0
  have hB : w.heap.size ≤ w.heap.size := Nat.le_refl _
  have HF := (show Hid _ from F)
  clear R h0 F
  go_enter Tryd.func49, Tryd.ntmps49
  go_wp2_with fail
  refine ht.mono ?_
  rintro e w1 ⟨rfl, hw1⟩
  have F1 := HF.out
  rw [← hw1] at F1
  obtain ⟨j0, j1, j2, j3, j4, j5, jf⟩ := row6 F1.row
  have hlt2 := lt_of_heap F1.row
  have HF1 := (show Hid _ from F1)
  clear ht hw1 HF F1
  go_wp2_with fail
  refine bodyPost_ret (v := .tuple #[.agg #[.string ⟨#[]⟩, .int .i64 0, .int .i64 0, .string ⟨#[]⟩, .slice none 0 0, .slice none 0 0], .bool false]) (by simp [results, Tryd.results49, go_sem, j0, j1, j2, j3, j4, j5]) rfl ?_
  refine ⟨?_, _, _, _, _, rfl⟩
  have hk := HF1.out.kept
  repeat (with_reducible first | exact hk | refine KeptB.setc ?_ (Nat.le_refl _) | refine KeptB.setc ?_ hB | refine KeptB.al ?_)
set_option maxRecDepth 100000 in
set_option maxHeartbeats 4000000 in
theorem field_textless (n : Nat) (D : Int) {w0 w : World} {b : Nat} {r : List UInt8} (R : RdK w0 b (1 :: r) w) (hx : ktextP r = none) :
    Calls Tryd.prog 49 #[.pointer (some ⟨b, 0, none⟩), .int .i64 D] w (FldA w0 b w n none) := by
  have F := FdK.begin R
  have ht := take_yes F.rd 1 rfl
  have hB : w.heap.size ≤ w.heap.size := Nat.le_refl _
  have HX := (show Hid _ from hx)
  have HF := (show Hid _ from F)
  clear R F hx
  go_enter Tryd.func49, Tryd.ntmps49
  go_wp2_with fail
  refine ht.mono ?_
  rintro e w1 ⟨rfl, K1, R1⟩
  have F1 := HF.out.more K1 R1
  have htx := text_any R1
  rw [HX.out] at htx
  have HF1 := (show Hid _ from F1)
  clear ht HF F1 K1 R1
  go_wp2_with fail
  refine htx.mono ?_
  rintro e w2 ⟨K2, h2⟩
  subst h2
  have r2 := K2.mem HF1.out.row (by have := HF1.out.lt; omega)
  obtain ⟨j0, j1, j2, j3, j4, j5, jf⟩ := row6 r2
  have hlt2 := lt_of_heap r2
  have HK := (show Hid _ from HF1.out.kept.trans K2)
  clear htx HF1 K2 r2
  go_wp2_with fail
  refine bodyPost_ret (v := .tuple #[.agg #[.string ⟨#[]⟩, .int .i64 0, .int .i64 0, .string ⟨#[]⟩, .slice none 0 0, .slice none 0 0], .bool false]) (by simp [results, Tryd.results49, go_sem, j0, j1, j2, j3, j4, j5]) rfl ?_
  refine ⟨?_, _, _, _, _, rfl⟩
  have hk := HK.out
  repeat (with_reducible first | exact hk | refine KeptB.setc ?_ (Nat.le_refl _) | refine KeptB.setc ?_ hB | refine KeptB.al ?_)
end Go.Proofs.YtehjdamdlokoaaaDoor
