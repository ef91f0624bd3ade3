/-
  The program's reader of keys: kinds that have nothing behind them. Conditions: as stated.
-/
import Derived.Test.YtehjdamdlokoaaaDoorKC
namespace Go.Proofs.YtehjdamdlokoaaaDoor
open Go.RowKit
set_option maxRecDepth 100000 in
set_option maxHeartbeats 4000000 in
theorem value_bare (n : Nat) (D : Int) (hD : D ≤ 16) {w0 w : World} {b : Nat} {c : UInt8} {r : List UInt8} (R : RdK w0 b (c :: r) w) {k : Int} (hk0 : (c.toNat : Int) - 1 = k) (h1 : ¬ k = 1) (h2 : ¬ k = 2) (h3 : ¬ k = 3) (h4 : ¬ k = 4) (h5 : ¬ k = 5) :
    Calls Tryd.prog 24 #[.pointer (some ⟨b, 0, none⟩), .int .i64 D] w (ValA w0 b w n (some (⟨k, 0, ⟨#[]⟩, [], []⟩, r))) := by
  have hn := next_cons (R.al (o := .cells #[.int .i64 0, .int .i64 0, .string ⟨#[]⟩, .slice none 0 0, .slice none 0 0] 28))
  have hlt := R.lt
  have hB0 : w.heap.size ≤ w.heap.size := Nat.le_refl _
  obtain ⟨C, hC⟩ : ∃ C : Int, (c.toNat : Int) = C := ⟨_, rfl⟩
  rw [hC] at hn hk0
  have hc256 := c.toNat_lt
  have e1 : (k == 1) = false := by simpa using h1
  have e2 : (k == 2) = false := by simpa using h2
  have e3 : (k == 3) = false := by simpa using h3
  have e4 : (k == 4) = false := by simpa using h4
  have e5 : (k == 5) = false := by simpa using h5
  have hw : wrap64 (wrap64 C - 1) = k := by unfold wrap64; omega
  have HW := (show Hid _ from R.below.size)
  clear R h1 h2 h3 h4 h5 hC hc256 hk0
  go_enter Tryd.func24, Tryd.ntmps24
  go_wp2_with fail
  refine hn.mono ?_
  rintro e w1 ⟨rfl, K1, R1⟩
  have r1 := K1.mem (heap_alloc_new w _) (by omega)
  obtain ⟨j0, j1, j2, j3, j4, jf⟩ := row5 r1
  have hlt2 := lt_of_heap r1
  have hne : w.heap.size ≠ w1.heap.size := by omega
  have hne2 : w1.heap.size ≠ w.heap.size := by omega
  have HK := (show Hid _ from And.intro ((KeptB.refl b w).al.trans K1) R1)
  clear hn K1 R1 r1
  go_wp2_with fail
  refine bodyPost_ret (v := .tuple #[.agg #[.int .i64 k, .int .i64 0, .string ⟨#[]⟩, .slice none 0 0, .slice none 0 0], .bool true]) (by simp [results, Tryd.results24, go_sem, j0, j1, j2, j3, j4, hlt2]) rfl ?_
  have hB : w.heap.size ≤ w1.heap.size := by omega
  obtain ⟨hk, hr⟩ := HK.out
  have hwb := HW.out
  have hnb : w.heap.size ≠ b := by omega
  refine ⟨?_, _, _, rfl, rep_bare _ _ _ _, ?_⟩
  · repeat (with_reducible first | exact hk | refine KeptB.setc ?_ (Nat.le_refl _) | refine KeptB.setc ?_ hB | refine KeptB.al ?_)
  · repeat (with_reducible first | exact hr | refine RdK.setc ?_ hnb hwb | refine RdK.al ?_)
end Go.Proofs.YtehjdamdlokoaaaDoor
