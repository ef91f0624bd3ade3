/-
  The text that strconv makes of a number from 100 to 256 hangs on the number and on one test against its table alone. Conditions: as each states.
-/
import Derived.Test.YtobdgdbdibnlgaaDoorDigits
import Derived.BigRegion
namespace Go.Proofs.YtobdgdbdibnlgaaDoor
open Go.RowKit Go.Extern.Stop Go.Stop Go.Extern

set_option maxRecDepth 100000 in
set_option maxHeartbeats 2000000 in
theorem fmt_2 (n : Nat) (h1 : 100 ≤ n) (h2 : n ≤ 256) : ∃ b0 b1 : UInt8, ∀ w : World,
    Calls Tryd.prog 42 #[.slice (some ⟨w.heap.size, 1, none⟩) 2 23, .int .u64 n] (w.alloc (.cells #[.int .u8 0, .int .u8 0, .int .u8 0, .int .u8 0, .int .u8 0, .int .u8 0, .int .u8 0, .int .u8 0, .int .u8 0, .int .u8 0, .int .u8 0, .int .u8 0, .int .u8 0, .int .u8 0, .int .u8 0, .int .u8 0, .int .u8 0, .int .u8 0, .int .u8 0, .int .u8 0, .int .u8 0, .int .u8 0, .int .u8 0, .int .u8 0] 98)) fun e w' => e = .returned (.tuple #[]) ∧ w' = (w.alloc (.cells #[.int .u8 0, .int .u8 (b0.toNat : Int), .int .u8 (b1.toNat : Int), .int .u8 0, .int .u8 0, .int .u8 0, .int .u8 0, .int .u8 0, .int .u8 0, .int .u8 0, .int .u8 0, .int .u8 0, .int .u8 0, .int .u8 0, .int .u8 0, .int .u8 0, .int .u8 0, .int .u8 0, .int .u8 0, .int .u8 0, .int .u8 0, .int .u8 0, .int .u8 0, .int .u8 0] 98)).drew := by
  have hm : (n : Int) % 100 < 100 := by omega
  have hm0 : 0 ≤ (n : Int) % 100 := by omega
  have q0 : (n : Int) % 100 * 2 < 200 := by omega
  have q1 : (n : Int) % 100 * 2 + 1 < 200 := by omega
  have q2 : 0 ≤ (n : Int) % 100 * 2 := by omega
  have q3 : 0 ≤ (n : Int) % 100 * 2 + 1 := by omega
  have q4 : (n : Int) / 100 ≤ 2 := by omega
  have q5 : 0 ≤ (n : Int) / 100 := by omega
  apply Exists.intro
  apply Exists.intro
  intro w
  go_enter Tryd.func42, Tryd.ntmps42
  go_wp2
  refine wp_loop_rounds 1 ?_
  rw [rounds_succ]
  go_wp2
  go_region
  go_wp2
  go_end0
  exact ⟨rfl, rfl⟩

set_option maxRecDepth 100000 in
set_option maxHeartbeats 2000000 in
theorem fmt_3 (n : Nat) (h1 : 100 ≤ n) (h2 : n ≤ 256) : ∃ b0 b1 : UInt8, ∀ w : World,
    Calls Tryd.prog 42 #[.slice (some ⟨w.heap.size, 1, none⟩) 3 23, .int .u64 n] (w.alloc (.cells #[.int .u8 0, .int .u8 0, .int .u8 0, .int .u8 0, .int .u8 0, .int .u8 0, .int .u8 0, .int .u8 0, .int .u8 0, .int .u8 0, .int .u8 0, .int .u8 0, .int .u8 0, .int .u8 0, .int .u8 0, .int .u8 0, .int .u8 0, .int .u8 0, .int .u8 0, .int .u8 0, .int .u8 0, .int .u8 0, .int .u8 0, .int .u8 0] 98)) fun e w' => e = .returned (.tuple #[]) ∧ w' = (w.alloc (.cells #[.int .u8 0, .int .u8 (48 + (n : Int) / 100), .int .u8 (b0.toNat : Int), .int .u8 (b1.toNat : Int), .int .u8 0, .int .u8 0, .int .u8 0, .int .u8 0, .int .u8 0, .int .u8 0, .int .u8 0, .int .u8 0, .int .u8 0, .int .u8 0, .int .u8 0, .int .u8 0, .int .u8 0, .int .u8 0, .int .u8 0, .int .u8 0, .int .u8 0, .int .u8 0, .int .u8 0, .int .u8 0] 98)).drew := by
  have hm : (n : Int) % 100 < 100 := by omega
  have hm0 : 0 ≤ (n : Int) % 100 := by omega
  have q0 : (n : Int) % 100 * 2 < 200 := by omega
  have q1 : (n : Int) % 100 * 2 + 1 < 200 := by omega
  have q2 : 0 ≤ (n : Int) % 100 * 2 := by omega
  have q3 : 0 ≤ (n : Int) % 100 * 2 + 1 := by omega
  have q4 : (n : Int) / 100 ≤ 2 := by omega
  have q5 : 0 ≤ (n : Int) / 100 := by omega
  apply Exists.intro
  apply Exists.intro
  intro w
  go_enter Tryd.func42, Tryd.ntmps42
  go_wp2
  refine wp_loop_rounds 1 ?_
  rw [rounds_succ]
  go_wp2
  go_region
  go_wp2
  go_end0
  exact ⟨rfl, rfl⟩

set_option maxRecDepth 100000 in
set_option maxHeartbeats 2000000 in
theorem FormatInt_2 (n : Nat) (h1 : 100 ≤ n) (h2 : n ≤ 256) : ∃ s : ByteArray, s.size ≤ 3 ∧ ∀ (w : World) (x : Int), w.cell? ⟨1, 2, none⟩ = some (.int .u64 x) → (n : Int) < x →
    Calls Tryd.prog 38 #[.int .i64 n, .int .i64 10] w fun e w' => e = .returned (.string s) ∧ Below w.heap.size w w' := by
  obtain ⟨b0, b1, hf⟩ := fmt_2 n h1 h2
  have HF := (show Hid _ from hf)
  clear hf
  obtain ⟨bb, hbb⟩ : ∃ bb : UInt8, 48 + (n : Int) / 100 = (bb.toNat : Int) := ⟨UInt8.ofNat (48 + n / 100), by simp; omega⟩
  refine ⟨⟨([b0, b1] : List UInt8).toArray⟩, by show Array.size _ ≤ 3; simp, fun w x hx hxn => ?_⟩
  have hcv : (convert 50 9 (.slice (some ⟨w.heap.size, 1, none⟩) 2 23)).run Tryd.prog (w.alloc (.cells #[.int .u8 0, .int .u8 (b0.toNat : Int), .int .u8 (b1.toNat : Int), .int .u8 0, .int .u8 0, .int .u8 0, .int .u8 0, .int .u8 0, .int .u8 0, .int .u8 0, .int .u8 0, .int .u8 0, .int .u8 0, .int .u8 0, .int .u8 0, .int .u8 0, .int .u8 0, .int .u8 0, .int .u8 0, .int .u8 0, .int .u8 0, .int .u8 0, .int .u8 0, .int .u8 0] 98)).drew = .ok (.string ⟨([b0, b1] : List UInt8).toArray⟩) (w.alloc (.cells #[.int .u8 0, .int .u8 (b0.toNat : Int), .int .u8 (b1.toNat : Int), .int .u8 0, .int .u8 0, .int .u8 0, .int .u8 0, .int .u8 0, .int .u8 0, .int .u8 0, .int .u8 0, .int .u8 0, .int .u8 0, .int .u8 0, .int .u8 0, .int .u8 0, .int .u8 0, .int .u8 0, .int .u8 0, .int .u8 0, .int .u8 0, .int .u8 0, .int .u8 0, .int .u8 0] 98)).drew :=
    run_convert_bytes_back (P := Tryd.prog) _ 50 9 5 ⟨w.heap.size, 1, none⟩ 23 [b0, b1] Tryd.underlying50 Tryd.underlying5 Tryd.underlying9 (fun j hj => by
      match j, hj with
      | 0, _ => simp [Addr.add]
      | 1, _ => simp [Addr.add])
  clear hbb
  go_enter Tryd.func38, Tryd.ntmps38
  go_wp2_with fail
  refine (numDigits_any n h1 h2 x _ (cell_alloc_old hx _)).mono ?_
  rintro e w' ⟨rfl, rfl⟩
  rw [if_neg (by omega)]
  go_wp2_with fail
  refine (HF.out w).mono ?_
  rintro e w' ⟨rfl, rfl⟩
  go_wp2
  go_ret
  exact ⟨rfl, ((Below.refl _ _).alloc (Nat.le_refl _) _).drew⟩

set_option maxRecDepth 100000 in
set_option maxHeartbeats 2000000 in
theorem FormatInt_3 (n : Nat) (h1 : 100 ≤ n) (h2 : n ≤ 256) : ∃ s : ByteArray, s.size ≤ 3 ∧ ∀ (w : World) (x : Int), w.cell? ⟨1, 2, none⟩ = some (.int .u64 x) → x ≤ (n : Int) →
    Calls Tryd.prog 38 #[.int .i64 n, .int .i64 10] w fun e w' => e = .returned (.string s) ∧ Below w.heap.size w w' := by
  obtain ⟨b0, b1, hf⟩ := fmt_3 n h1 h2
  have HF := (show Hid _ from hf)
  clear hf
  obtain ⟨bb, hbb⟩ : ∃ bb : UInt8, 48 + (n : Int) / 100 = (bb.toNat : Int) := ⟨UInt8.ofNat (48 + n / 100), by simp; omega⟩
  refine ⟨⟨([bb, b0, b1] : List UInt8).toArray⟩, by show Array.size _ ≤ 3; simp, fun w x hx hxn => ?_⟩
  have hcv : (convert 50 9 (.slice (some ⟨w.heap.size, 1, none⟩) 3 23)).run Tryd.prog (w.alloc (.cells #[.int .u8 0, .int .u8 (48 + (n : Int) / 100), .int .u8 (b0.toNat : Int), .int .u8 (b1.toNat : Int), .int .u8 0, .int .u8 0, .int .u8 0, .int .u8 0, .int .u8 0, .int .u8 0, .int .u8 0, .int .u8 0, .int .u8 0, .int .u8 0, .int .u8 0, .int .u8 0, .int .u8 0, .int .u8 0, .int .u8 0, .int .u8 0, .int .u8 0, .int .u8 0, .int .u8 0, .int .u8 0] 98)).drew = .ok (.string ⟨([bb, b0, b1] : List UInt8).toArray⟩) (w.alloc (.cells #[.int .u8 0, .int .u8 (48 + (n : Int) / 100), .int .u8 (b0.toNat : Int), .int .u8 (b1.toNat : Int), .int .u8 0, .int .u8 0, .int .u8 0, .int .u8 0, .int .u8 0, .int .u8 0, .int .u8 0, .int .u8 0, .int .u8 0, .int .u8 0, .int .u8 0, .int .u8 0, .int .u8 0, .int .u8 0, .int .u8 0, .int .u8 0, .int .u8 0, .int .u8 0, .int .u8 0, .int .u8 0] 98)).drew :=
    run_convert_bytes_back (P := Tryd.prog) _ 50 9 5 ⟨w.heap.size, 1, none⟩ 23 [bb, b0, b1] Tryd.underlying50 Tryd.underlying5 Tryd.underlying9 (fun j hj => by
      match j, hj with
      | 0, _ => simp [Addr.add]; exact hbb
      | 1, _ => simp [Addr.add]
      | 2, _ => simp [Addr.add])
  clear hbb
  go_enter Tryd.func38, Tryd.ntmps38
  go_wp2_with fail
  refine (numDigits_any n h1 h2 x _ (cell_alloc_old hx _)).mono ?_
  rintro e w' ⟨rfl, rfl⟩
  rw [if_pos hxn]
  go_wp2_with fail
  refine (HF.out w).mono ?_
  rintro e w' ⟨rfl, rfl⟩
  go_wp2
  go_ret
  exact ⟨rfl, ((Below.refl _ _).alloc (Nat.le_refl _) _).drew⟩
end Go.Proofs.YtobdgdbdibnlgaaDoor
