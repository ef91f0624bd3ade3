/-
  The program's reader of keys: values that are none, kinds that have nothing behind them. Conditions: as stated.
-/
import Derived.Test.YtehjdamdlokoaaaDoorKC
namespace Go.Proofs.YtehjdamdlokoaaaDoor
open Go.RowKit
set_option maxRecDepth 100000 in
set_option maxHeartbeats 4000000 in
/-- no byte is left. -/
theorem value_nil (n : Nat) (D : Int) {w0 w : World} {b : Nat} (R : RdK w0 b [] w) :
    Calls Tryd.prog 24 #[.pointer (some ⟨b, 0, none⟩), .int .i64 D] w (ValA w0 b w n none) := by
  have hn := next_nil (R.al (o := .cells #[.int .i64 0, .int .i64 0, .string ⟨#[]⟩, .slice none 0 0, .slice none 0 0] 28))
  have hB : w.heap.size ≤ w.heap.size := Nat.le_refl _
  go_enter Tryd.func24, Tryd.ntmps24
  go_wp2_with fail
  refine hn.mono ?_
  rintro e w1 ⟨rfl, hw1⟩
  have r1 : w1.heap[w.heap.size]? = some (.cells #[.int .i64 0, .int .i64 0, .string ⟨#[]⟩, .slice none 0 0, .slice none 0 0] 28 (0, 0)) := by rw [hw1]; exact heap_alloc_new w _
  have hk : KeptB b w w1 := by rw [hw1]; exact (KeptB.refl _ _).al
  obtain ⟨j0, j1, j2, j3, j4, jf⟩ := row5 r1
  have hlt2 := lt_of_heap r1
  have HK := (show Hid _ from hk)
  clear hn hw1 r1 hk R
  go_wp2_with fail
  refine bodyPost_ret (v := .tuple #[.agg #[.int .i64 0, .int .i64 0, .string ⟨#[]⟩, .slice none 0 0, .slice none 0 0], .bool false]) (by simp [results, Tryd.results24, go_sem, j0, j1, j2, j3, j4]) rfl ?_
  refine ⟨?_, _, _, _, rfl⟩
  have hk := HK.out
  repeat (with_reducible first | exact hk | refine KeptB.setc ?_ (Nat.le_refl _) | refine KeptB.setc ?_ hB | refine KeptB.al ?_)
set_option maxRecDepth 100000 in
set_option maxHeartbeats 4000000 in
/-- it stands too deep. -/
theorem value_deep (n : Nat) (D : Int) (hD : 16 < D) {w0 w : World} {b : Nat} {c : UInt8} {r : List UInt8} (R : RdK w0 b (c :: r) w) :
    Calls Tryd.prog 24 #[.pointer (some ⟨b, 0, none⟩), .int .i64 D] w (ValA w0 b w n none) := by
  have hn := next_cons (R.al (o := .cells #[.int .i64 0, .int .i64 0, .string ⟨#[]⟩, .slice none 0 0, .slice none 0 0] 28))
  have hB : w.heap.size ≤ w.heap.size := Nat.le_refl _
  have hlt := R.lt
  obtain ⟨C, hC⟩ : ∃ C : Int, (c.toNat : Int) = C := ⟨_, rfl⟩
  rw [hC] at hn
  clear R hC
  go_enter Tryd.func24, Tryd.ntmps24
  go_wp2_with fail
  refine hn.mono ?_
  rintro e w1 ⟨rfl, K1, R1⟩
  have r1 := K1.mem (heap_alloc_new w _) (by omega)
  obtain ⟨j0, j1, j2, j3, j4, jf⟩ := row5 r1
  have hlt2 := lt_of_heap r1
  have HK := (show Hid _ from (KeptB.refl b w).al.trans K1)
  clear hn K1 R1 r1
  go_wp2_with fail
  refine bodyPost_ret (v := .tuple #[.agg #[.int .i64 0, .int .i64 0, .string ⟨#[]⟩, .slice none 0 0, .slice none 0 0], .bool false]) (by simp [results, Tryd.results24, go_sem, j0, j1, j2, j3, j4]) rfl ?_
  refine ⟨?_, _, _, _, rfl⟩
  have hk := HK.out
  repeat (with_reducible first | exact hk | refine KeptB.setc ?_ (Nat.le_refl _) | refine KeptB.setc ?_ hB | refine KeptB.al ?_)
end Go.Proofs.YtehjdamdlokoaaaDoor
