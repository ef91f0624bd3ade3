/-
  The law's char by its contract. Condition: the text has at most 10000 bytes.
-/
import Derived.Test.YtdcaohnaiepllaaGreatDoorTHex
import Derived.Test.YtdcaohnaiepllaaGreatDoorTVal
import Derived.Lib.SlBytesConst
namespace Go.Proofs.YtdcaohnaiepllaaGreatDoor
open Go.RowKit Go.Extern.Stop Go.Stop Go.Extern

def pair2 : Option (Nat × Nat) → Value
  | none => .tuple #[.int .i32 0, .int .i64 0]
  | some cn => .tuple #[.int .i32 (cn.1 : Int), .int .i64 (cn.2 : Int)]

/-- the law's First tells a number and a width. -/
def FirstIs (t : ByteArray) (r n : Int) (w : World) : Prop := Calls Tryz.prog 28 #[.string t] w fun e w' => e = .returned (.tuple #[.int .i32 r, .int .i64 n]) ∧ Below w.heap.size w w'
/-- the law's unit tells a number, wherever it is asked. -/
def LawU (s : ByteArray) (z r : Int) : Prop := ∀ w, Calls Tryz.prog 92 #[.string s, .int .i64 z] w fun e w' => e = .returned (.int .i64 r) ∧ w' = w

theorem kc8 (w : World) : ∃ W : World, (convert 22 22 (.slice (some ⟨w.heap.size, 0, none⟩) 8 8)).run Tryz.prog (w.alloc (.cells #[.int .u8 34, .int .u8 92, .int .u8 47, .int .u8 98, .int .u8 102, .int .u8 110, .int .u8 114, .int .u8 116] 5)) = .ok (.slice (some ⟨w.heap.size, 0, none⟩) 8 8) W ∧ Below w.heap.size w W ∧
    W.cell? ⟨w.heap.size, 0, none⟩ = some (.int .u8 34) ∧ W.cell? ⟨w.heap.size, 1, none⟩ = some (.int .u8 92) ∧ W.cell? ⟨w.heap.size, 2, none⟩ = some (.int .u8 47) ∧ W.cell? ⟨w.heap.size, 3, none⟩ = some (.int .u8 98) ∧ W.cell? ⟨w.heap.size, 4, none⟩ = some (.int .u8 102) ∧ W.cell? ⟨w.heap.size, 5, none⟩ = some (.int .u8 110) ∧ W.cell? ⟨w.heap.size, 6, none⟩ = some (.int .u8 114) ∧ W.cell? ⟨w.heap.size, 7, none⟩ = some (.int .u8 116) := by
  refine ⟨_, Lib.run_convert_bytes_const (P := Tryz.prog) w 22 5 #[.int .u8 34, .int .u8 92, .int .u8 47, .int .u8 98, .int .u8 102, .int .u8 110, .int .u8 114, .int .u8 116] 8 8 Tryz.underlying22 Tryz.underlying5, (Below.refl _ _).alloc (Nat.le_refl _) _, ?_⟩
  have h : (w.alloc (.cells #[.int .u8 34, .int .u8 92, .int .u8 47, .int .u8 98, .int .u8 102, .int .u8 110, .int .u8 114, .int .u8 116] 5 ((#[.int .u8 34, .int .u8 92, .int .u8 47, .int .u8 98, .int .u8 102, .int .u8 110, .int .u8 114, .int .u8 116] : Array Value).size, (#[.int .u8 34, .int .u8 92, .int .u8 47, .int .u8 98, .int .u8 102, .int .u8 110, .int .u8 114, .int .u8 116] : Array Value).size + 1))).heap[w.heap.size]? = some (.cells #[.int .u8 34, .int .u8 92, .int .u8 47, .int .u8 98, .int .u8 102, .int .u8 110, .int .u8 114, .int .u8 116] 5 ((#[.int .u8 34, .int .u8 92, .int .u8 47, .int .u8 98, .int .u8 102, .int .u8 110, .int .u8 114, .int .u8 116] : Array Value).size, (#[.int .u8 34, .int .u8 92, .int .u8 47, .int .u8 98, .int .u8 102, .int .u8 110, .int .u8 114, .int .u8 116] : Array Value).size + 1)) := by
    show (w.heap.push _)[_]? = _
    rw [Array.getElem?_push, if_pos rfl]
  refine ⟨?_, ?_, ?_, ?_, ?_, ?_, ?_, ?_⟩ <;> (unfold World.cell?; simp only [h]; rfl)

set_option maxRecDepth 100000 in
set_option maxHeartbeats 1000000 in
theorem char_ctl (s : ByteArray) (k : Nat) (_hk : k < s.size) (_hs : (s.size : Int) ≤ 10000) (w : World) (r n : Int) (hF : FirstIs (s.extract k s.size) r n w) (h : r < 32) :
    Calls Tryz.prog 71 #[.string s, .int .i64 (k : Int)] w fun e w' => e = .returned (pair2 none) ∧ Below w.heap.size w w' := by
  have zk : (k : Int) ≤ (s.size : Int) := by omega
  go_enter Tryz.func71, Tryz.ntmps71
  go_wp2_with fail
  refine hF.mono ?_
  rintro e w1 ⟨rfl, hb1⟩
  go_wp2
  go_ret2
  exact ⟨rfl, hb1⟩

set_option maxRecDepth 100000 in
set_option maxHeartbeats 1000000 in
theorem char_brk (s : ByteArray) (k : Nat) (_hk : k < s.size) (_hs : (s.size : Int) ≤ 10000) (w : World) (hF : FirstIs (s.extract k s.size) 65533 1 w) :
    Calls Tryz.prog 71 #[.string s, .int .i64 (k : Int)] w fun e w' => e = .returned (pair2 none) ∧ Below w.heap.size w w' := by
  have zk : (k : Int) ≤ (s.size : Int) := by omega
  go_enter Tryz.func71, Tryz.ntmps71
  go_wp2_with fail
  refine hF.mono ?_
  rintro e w1 ⟨rfl, hb1⟩
  go_wp2
  go_ret2
  exact ⟨rfl, hb1⟩

set_option maxRecDepth 100000 in
set_option maxHeartbeats 1000000 in
theorem char_plain (s : ByteArray) (k : Nat) (_hk : k < s.size) (_hs : (s.size : Int) ≤ 10000) (w : World) (r n : Int) (hF : FirstIs (s.extract k s.size) r n w) (h1 : ¬ r < 32) (h2 : (r == 65533) = false) (h3 : (r != 92) = true) :
    Calls Tryz.prog 71 #[.string s, .int .i64 (k : Int)] w fun e w' => e = .returned (.tuple #[.int .i32 r, .int .i64 n]) ∧ Below w.heap.size w w' := by
  have zk : (k : Int) ≤ (s.size : Int) := by omega
  go_enter Tryz.func71, Tryz.ntmps71
  go_wp2_with fail
  refine hF.mono ?_
  rintro e w1 ⟨rfl, hb1⟩
  go_wp2
  go_ret2
  exact ⟨rfl, hb1⟩

set_option maxRecDepth 100000 in
set_option maxHeartbeats 1000000 in
theorem char_wide (s : ByteArray) (k : Nat) (_hk : k < s.size) (_hs : (s.size : Int) ≤ 10000) (w : World) (n : Int) (hF : FirstIs (s.extract k s.size) 65533 n w) (h2 : (n == 1) = false) :
    Calls Tryz.prog 71 #[.string s, .int .i64 (k : Int)] w fun e w' => e = .returned (.tuple #[.int .i32 65533, .int .i64 n]) ∧ Below w.heap.size w w' := by
  have zk : (k : Int) ≤ (s.size : Int) := by omega
  go_enter Tryz.func71, Tryz.ntmps71
  go_wp2_with fail
  refine hF.mono ?_
  rintro e w1 ⟨rfl, hb1⟩
  go_wp2
  go_ret2
  exact ⟨rfl, hb1⟩

set_option maxRecDepth 100000 in
set_option maxHeartbeats 1000000 in
theorem char_end (s : ByteArray) (k : Nat) (_hk : k < s.size) (_hs : (s.size : Int) ≤ 10000) (w : World) (hF : FirstIs (s.extract k s.size) 92 1 w) (h : s.size ≤ k + 1) :
    Calls Tryz.prog 71 #[.string s, .int .i64 (k : Int)] w fun e w' => e = .returned (pair2 none) ∧ Below w.heap.size w w' := by
  have zk : (k : Int) ≤ (s.size : Int) := by omega
  have f0 : (s.size : Int) ≤ (k : Int) + 1 := by omega
  go_enter Tryz.func71, Tryz.ntmps71
  go_wp2_with fail
  refine hF.mono ?_
  rintro e w1 ⟨rfl, hb1⟩
  go_wp2
  go_ret2
  exact ⟨rfl, hb1⟩

set_option maxRecDepth 100000 in
set_option maxHeartbeats 1000000 in
theorem char_x34 (s : ByteArray) (k : Nat) (_hk : k < s.size) (_hs : (s.size : Int) ≤ 10000) (w : World) (hF : FirstIs (s.extract k s.size) 92 1 w) (hk1 : k + 1 < s.size) (ix : (s[k + 1]'hk1).toNat = 34) :
    Calls Tryz.prog 71 #[.string s, .int .i64 (k : Int)] w fun e w' => e = .returned (pair2 (some (34, 2))) ∧ Below w.heap.size w w' := by
  have zk : (k : Int) ≤ (s.size : Int) := by omega
  have f0 : ¬ (s.size : Int) ≤ (k : Int) + 1 := by omega
  have f1 : (0 : Int) ≤ (k : Int) + 1 := by omega
  go_enter Tryz.func71, Tryz.ntmps71
  go_wp2_with fail
  refine hF.mono ?_
  rintro e w1 ⟨rfl, hb1⟩
  obtain ⟨W, hcv, hbW, c0, c1, c2, c3, c4, c5, c6, c7⟩ := kc8 w1
  have hB := hb1.trans (hbW.mono hb1.size)
  go_wp2
  refine wp_loop_rounds 9 ?_
  rw [rounds_succ]
  go_wp2
  go_ret2
  exact ⟨rfl, hB.alloc hB.size _⟩

set_option maxRecDepth 100000 in
set_option maxHeartbeats 1000000 in
theorem char_x92 (s : ByteArray) (k : Nat) (_hk : k < s.size) (_hs : (s.size : Int) ≤ 10000) (w : World) (hF : FirstIs (s.extract k s.size) 92 1 w) (hk1 : k + 1 < s.size) (ix : (s[k + 1]'hk1).toNat = 92) :
    Calls Tryz.prog 71 #[.string s, .int .i64 (k : Int)] w fun e w' => e = .returned (pair2 (some (92, 2))) ∧ Below w.heap.size w w' := by
  have zk : (k : Int) ≤ (s.size : Int) := by omega
  have f0 : ¬ (s.size : Int) ≤ (k : Int) + 1 := by omega
  have f1 : (0 : Int) ≤ (k : Int) + 1 := by omega
  go_enter Tryz.func71, Tryz.ntmps71
  go_wp2_with fail
  refine hF.mono ?_
  rintro e w1 ⟨rfl, hb1⟩
  obtain ⟨W, hcv, hbW, c0, c1, c2, c3, c4, c5, c6, c7⟩ := kc8 w1
  have hB := hb1.trans (hbW.mono hb1.size)
  go_wp2
  refine wp_loop_rounds 9 ?_
  rw [rounds_succ]
  go_wp2
  rw [rounds_succ]
  go_wp2
  go_ret2
  exact ⟨rfl, hB.alloc hB.size _⟩

set_option maxRecDepth 100000 in
set_option maxHeartbeats 1000000 in
theorem char_x47 (s : ByteArray) (k : Nat) (_hk : k < s.size) (_hs : (s.size : Int) ≤ 10000) (w : World) (hF : FirstIs (s.extract k s.size) 92 1 w) (hk1 : k + 1 < s.size) (ix : (s[k + 1]'hk1).toNat = 47) :
    Calls Tryz.prog 71 #[.string s, .int .i64 (k : Int)] w fun e w' => e = .returned (pair2 (some (47, 2))) ∧ Below w.heap.size w w' := by
  have zk : (k : Int) ≤ (s.size : Int) := by omega
  have f0 : ¬ (s.size : Int) ≤ (k : Int) + 1 := by omega
  have f1 : (0 : Int) ≤ (k : Int) + 1 := by omega
  go_enter Tryz.func71, Tryz.ntmps71
  go_wp2_with fail
  refine hF.mono ?_
  rintro e w1 ⟨rfl, hb1⟩
  obtain ⟨W, hcv, hbW, c0, c1, c2, c3, c4, c5, c6, c7⟩ := kc8 w1
  have hB := hb1.trans (hbW.mono hb1.size)
  go_wp2
  refine wp_loop_rounds 9 ?_
  rw [rounds_succ]
  go_wp2
  rw [rounds_succ]
  go_wp2
  rw [rounds_succ]
  go_wp2
  go_ret2
  exact ⟨rfl, hB.alloc hB.size _⟩

set_option maxRecDepth 100000 in
set_option maxHeartbeats 1000000 in
theorem char_x98 (s : ByteArray) (k : Nat) (_hk : k < s.size) (_hs : (s.size : Int) ≤ 10000) (w : World) (hF : FirstIs (s.extract k s.size) 92 1 w) (hk1 : k + 1 < s.size) (ix : (s[k + 1]'hk1).toNat = 98) :
    Calls Tryz.prog 71 #[.string s, .int .i64 (k : Int)] w fun e w' => e = .returned (pair2 (some (8, 2))) ∧ Below w.heap.size w w' := by
  have zk : (k : Int) ≤ (s.size : Int) := by omega
  have f0 : ¬ (s.size : Int) ≤ (k : Int) + 1 := by omega
  have f1 : (0 : Int) ≤ (k : Int) + 1 := by omega
  go_enter Tryz.func71, Tryz.ntmps71
  go_wp2_with fail
  refine hF.mono ?_
  rintro e w1 ⟨rfl, hb1⟩
  obtain ⟨W, hcv, hbW, c0, c1, c2, c3, c4, c5, c6, c7⟩ := kc8 w1
  have hB := hb1.trans (hbW.mono hb1.size)
  go_wp2
  refine wp_loop_rounds 9 ?_
  rw [rounds_succ]
  go_wp2
  rw [rounds_succ]
  go_wp2
  rw [rounds_succ]
  go_wp2
  rw [rounds_succ]
  go_wp2
  go_ret2
  exact ⟨rfl, hB.alloc hB.size _⟩

set_option maxRecDepth 100000 in
set_option maxHeartbeats 1000000 in
theorem char_x102 (s : ByteArray) (k : Nat) (_hk : k < s.size) (_hs : (s.size : Int) ≤ 10000) (w : World) (hF : FirstIs (s.extract k s.size) 92 1 w) (hk1 : k + 1 < s.size) (ix : (s[k + 1]'hk1).toNat = 102) :
    Calls Tryz.prog 71 #[.string s, .int .i64 (k : Int)] w fun e w' => e = .returned (pair2 (some (12, 2))) ∧ Below w.heap.size w w' := by
  have zk : (k : Int) ≤ (s.size : Int) := by omega
  have f0 : ¬ (s.size : Int) ≤ (k : Int) + 1 := by omega
  have f1 : (0 : Int) ≤ (k : Int) + 1 := by omega
  go_enter Tryz.func71, Tryz.ntmps71
  go_wp2_with fail
  refine hF.mono ?_
  rintro e w1 ⟨rfl, hb1⟩
  obtain ⟨W, hcv, hbW, c0, c1, c2, c3, c4, c5, c6, c7⟩ := kc8 w1
  have hB := hb1.trans (hbW.mono hb1.size)
  go_wp2
  refine wp_loop_rounds 9 ?_
  rw [rounds_succ]
  go_wp2
  rw [rounds_succ]
  go_wp2
  rw [rounds_succ]
  go_wp2
  rw [rounds_succ]
  go_wp2
  rw [rounds_succ]
  go_wp2
  go_ret2
  exact ⟨rfl, hB.alloc hB.size _⟩

set_option maxRecDepth 100000 in
set_option maxHeartbeats 1000000 in
theorem char_x110 (s : ByteArray) (k : Nat) (_hk : k < s.size) (_hs : (s.size : Int) ≤ 10000) (w : World) (hF : FirstIs (s.extract k s.size) 92 1 w) (hk1 : k + 1 < s.size) (ix : (s[k + 1]'hk1).toNat = 110) :
    Calls Tryz.prog 71 #[.string s, .int .i64 (k : Int)] w fun e w' => e = .returned (pair2 (some (10, 2))) ∧ Below w.heap.size w w' := by
  have zk : (k : Int) ≤ (s.size : Int) := by omega
  have f0 : ¬ (s.size : Int) ≤ (k : Int) + 1 := by omega
  have f1 : (0 : Int) ≤ (k : Int) + 1 := by omega
  go_enter Tryz.func71, Tryz.ntmps71
  go_wp2_with fail
  refine hF.mono ?_
  rintro e w1 ⟨rfl, hb1⟩
  obtain ⟨W, hcv, hbW, c0, c1, c2, c3, c4, c5, c6, c7⟩ := kc8 w1
  have hB := hb1.trans (hbW.mono hb1.size)
  go_wp2
  refine wp_loop_rounds 9 ?_
  rw [rounds_succ]
  go_wp2
  rw [rounds_succ]
  go_wp2
  rw [rounds_succ]
  go_wp2
  rw [rounds_succ]
  go_wp2
  rw [rounds_succ]
  go_wp2
  rw [rounds_succ]
  go_wp2
  go_ret2
  exact ⟨rfl, hB.alloc hB.size _⟩

set_option maxRecDepth 100000 in
set_option maxHeartbeats 1000000 in
theorem char_x114 (s : ByteArray) (k : Nat) (_hk : k < s.size) (_hs : (s.size : Int) ≤ 10000) (w : World) (hF : FirstIs (s.extract k s.size) 92 1 w) (hk1 : k + 1 < s.size) (ix : (s[k + 1]'hk1).toNat = 114) :
    Calls Tryz.prog 71 #[.string s, .int .i64 (k : Int)] w fun e w' => e = .returned (pair2 (some (13, 2))) ∧ Below w.heap.size w w' := by
  have zk : (k : Int) ≤ (s.size : Int) := by omega
  have f0 : ¬ (s.size : Int) ≤ (k : Int) + 1 := by omega
  have f1 : (0 : Int) ≤ (k : Int) + 1 := by omega
  go_enter Tryz.func71, Tryz.ntmps71
  go_wp2_with fail
  refine hF.mono ?_
  rintro e w1 ⟨rfl, hb1⟩
  obtain ⟨W, hcv, hbW, c0, c1, c2, c3, c4, c5, c6, c7⟩ := kc8 w1
  have hB := hb1.trans (hbW.mono hb1.size)
  go_wp2
  refine wp_loop_rounds 9 ?_
  rw [rounds_succ]
  go_wp2
  rw [rounds_succ]
  go_wp2
  rw [rounds_succ]
  go_wp2
  rw [rounds_succ]
  go_wp2
  rw [rounds_succ]
  go_wp2
  rw [rounds_succ]
  go_wp2
  rw [rounds_succ]
  go_wp2
  go_ret2
  exact ⟨rfl, hB.alloc hB.size _⟩

set_option maxRecDepth 100000 in
set_option maxHeartbeats 1000000 in
theorem char_x116 (s : ByteArray) (k : Nat) (_hk : k < s.size) (_hs : (s.size : Int) ≤ 10000) (w : World) (hF : FirstIs (s.extract k s.size) 92 1 w) (hk1 : k + 1 < s.size) (ix : (s[k + 1]'hk1).toNat = 116) :
    Calls Tryz.prog 71 #[.string s, .int .i64 (k : Int)] w fun e w' => e = .returned (pair2 (some (9, 2))) ∧ Below w.heap.size w w' := by
  have zk : (k : Int) ≤ (s.size : Int) := by omega
  have f0 : ¬ (s.size : Int) ≤ (k : Int) + 1 := by omega
  have f1 : (0 : Int) ≤ (k : Int) + 1 := by omega
  go_enter Tryz.func71, Tryz.ntmps71
  go_wp2_with fail
  refine hF.mono ?_
  rintro e w1 ⟨rfl, hb1⟩
  obtain ⟨W, hcv, hbW, c0, c1, c2, c3, c4, c5, c6, c7⟩ := kc8 w1
  have hB := hb1.trans (hbW.mono hb1.size)
  go_wp2
  refine wp_loop_rounds 9 ?_
  rw [rounds_succ]
  go_wp2
  rw [rounds_succ]
  go_wp2
  rw [rounds_succ]
  go_wp2
  rw [rounds_succ]
  go_wp2
  rw [rounds_succ]
  go_wp2
  rw [rounds_succ]
  go_wp2
  rw [rounds_succ]
  go_wp2
  rw [rounds_succ]
  go_wp2
  go_ret2
  exact ⟨rfl, hB.alloc hB.size _⟩

set_option maxRecDepth 100000 in
set_option maxHeartbeats 1000000 in
theorem char_notu (s : ByteArray) (k : Nat) (_hk : k < s.size) (_hs : (s.size : Int) ≤ 10000) (w : World) (hF : FirstIs (s.extract k s.size) 92 1 w) (hk1 : k + 1 < s.size) (c : Int) (ix : (((s[k + 1]'hk1).toNat : Nat) : Int) = c) (g34 : (c == 34) = false) (g92 : (c == 92) = false) (g47 : (c == 47) = false) (g98 : (c == 98) = false) (g102 : (c == 102) = false) (g110 : (c == 110) = false) (g114 : (c == 114) = false) (g116 : (c == 116) = false) (gu : (c != 117) = true) (a : Int) (hU : LawU s ((k : Int) + 2) a) :
    Calls Tryz.prog 71 #[.string s, .int .i64 (k : Int)] w fun e w' => e = .returned (pair2 none) ∧ Below w.heap.size w w' := by
  have zk : (k : Int) ≤ (s.size : Int) := by omega
  have f0 : ¬ (s.size : Int) ≤ (k : Int) + 1 := by omega
  have f1 : (0 : Int) ≤ (k : Int) + 1 := by omega
  go_enter Tryz.func71, Tryz.ntmps71
  go_wp2_with fail
  refine hF.mono ?_
  rintro e w1 ⟨rfl, hb1⟩
  obtain ⟨W, hcv, hbW, c0, c1, c2, c3, c4, c5, c6, c7⟩ := kc8 w1
  have hB := hb1.trans (hbW.mono hb1.size)
  go_wp2
  refine wp_loop_rounds 9 ?_
  rw [rounds_succ]
  go_wp2
  rw [rounds_succ]
  go_wp2
  rw [rounds_succ]
  go_wp2
  rw [rounds_succ]
  go_wp2
  rw [rounds_succ]
  go_wp2
  rw [rounds_succ]
  go_wp2
  rw [rounds_succ]
  go_wp2
  rw [rounds_succ]
  go_wp2
  rw [rounds_succ]
  go_wp2_with fail
  refine (hU _).mono ?_
  rintro e w' ⟨rfl, rfl⟩
  go_wp2
  go_ret2
  exact ⟨rfl, hB⟩

set_option maxRecDepth 100000 in
set_option maxHeartbeats 1000000 in
theorem char_uneg (s : ByteArray) (k : Nat) (_hk : k < s.size) (_hs : (s.size : Int) ≤ 10000) (w : World) (hF : FirstIs (s.extract k s.size) 92 1 w) (hk1 : k + 1 < s.size) (ix : (s[k + 1]'hk1).toNat = 117) (a : Int) (hU : LawU s ((k : Int) + 2) a) (h : a < 0) :
    Calls Tryz.prog 71 #[.string s, .int .i64 (k : Int)] w fun e w' => e = .returned (pair2 none) ∧ Below w.heap.size w w' := by
  have zk : (k : Int) ≤ (s.size : Int) := by omega
  have f0 : ¬ (s.size : Int) ≤ (k : Int) + 1 := by omega
  have f1 : (0 : Int) ≤ (k : Int) + 1 := by omega
  go_enter Tryz.func71, Tryz.ntmps71
  go_wp2_with fail
  refine hF.mono ?_
  rintro e w1 ⟨rfl, hb1⟩
  obtain ⟨W, hcv, hbW, c0, c1, c2, c3, c4, c5, c6, c7⟩ := kc8 w1
  have hB := hb1.trans (hbW.mono hb1.size)
  go_wp2
  refine wp_loop_rounds 9 ?_
  rw [rounds_succ]
  go_wp2
  rw [rounds_succ]
  go_wp2
  rw [rounds_succ]
  go_wp2
  rw [rounds_succ]
  go_wp2
  rw [rounds_succ]
  go_wp2
  rw [rounds_succ]
  go_wp2
  rw [rounds_succ]
  go_wp2
  rw [rounds_succ]
  go_wp2
  rw [rounds_succ]
  go_wp2_with fail
  refine (hU _).mono ?_
  rintro e w' ⟨rfl, rfl⟩
  go_wp2
  go_ret2
  exact ⟨rfl, hB⟩

set_option maxRecDepth 100000 in
set_option maxHeartbeats 1000000 in
theorem char_usecond (s : ByteArray) (k : Nat) (_hk : k < s.size) (_hs : (s.size : Int) ≤ 10000) (w : World) (hF : FirstIs (s.extract k s.size) 92 1 w) (hk1 : k + 1 < s.size) (ix : (s[k + 1]'hk1).toNat = 117) (a : Int) (hU : LawU s ((k : Int) + 2) a) (h : 56320 ≤ a) (h2 : a ≤ 57343) :
    Calls Tryz.prog 71 #[.string s, .int .i64 (k : Int)] w fun e w' => e = .returned (pair2 none) ∧ Below w.heap.size w w' := by
  have zk : (k : Int) ≤ (s.size : Int) := by omega
  have f0 : ¬ (s.size : Int) ≤ (k : Int) + 1 := by omega
  have f1 : (0 : Int) ≤ (k : Int) + 1 := by omega
  have f2 : ¬ a < 0 := by omega
  go_enter Tryz.func71, Tryz.ntmps71
  go_wp2_with fail
  refine hF.mono ?_
  rintro e w1 ⟨rfl, hb1⟩
  obtain ⟨W, hcv, hbW, c0, c1, c2, c3, c4, c5, c6, c7⟩ := kc8 w1
  have hB := hb1.trans (hbW.mono hb1.size)
  go_wp2
  refine wp_loop_rounds 9 ?_
  rw [rounds_succ]
  go_wp2
  rw [rounds_succ]
  go_wp2
  rw [rounds_succ]
  go_wp2
  rw [rounds_succ]
  go_wp2
  rw [rounds_succ]
  go_wp2
  rw [rounds_succ]
  go_wp2
  rw [rounds_succ]
  go_wp2
  rw [rounds_succ]
  go_wp2
  rw [rounds_succ]
  go_wp2_with fail
  refine (hU _).mono ?_
  rintro e w' ⟨rfl, rfl⟩
  go_wp2
  go_ret2
  exact ⟨rfl, hB⟩

set_option maxRecDepth 100000 in
set_option maxHeartbeats 1000000 in
theorem char_ulow (s : ByteArray) (k : Nat) (_hk : k < s.size) (_hs : (s.size : Int) ≤ 10000) (w : World) (hF : FirstIs (s.extract k s.size) 92 1 w) (hk1 : k + 1 < s.size) (ix : (s[k + 1]'hk1).toNat = 117) (a : Int) (hU : LawU s ((k : Int) + 2) a) (h0 : 0 ≤ a) (h : a < 55296) :
    Calls Tryz.prog 71 #[.string s, .int .i64 (k : Int)] w fun e w' => e = .returned (.tuple #[.int .i32 a, .int .i64 6]) ∧ Below w.heap.size w w' := by
  have zk : (k : Int) ≤ (s.size : Int) := by omega
  have f0 : ¬ (s.size : Int) ≤ (k : Int) + 1 := by omega
  have f1 : (0 : Int) ≤ (k : Int) + 1 := by omega
  have f2 : ¬ a < 0 := by omega
  have f3 : ¬ 56320 ≤ a := by omega
  go_enter Tryz.func71, Tryz.ntmps71
  go_wp2_with fail
  refine hF.mono ?_
  rintro e w1 ⟨rfl, hb1⟩
  obtain ⟨W, hcv, hbW, c0, c1, c2, c3, c4, c5, c6, c7⟩ := kc8 w1
  have hB := hb1.trans (hbW.mono hb1.size)
  go_wp2
  refine wp_loop_rounds 9 ?_
  rw [rounds_succ]
  go_wp2
  rw [rounds_succ]
  go_wp2
  rw [rounds_succ]
  go_wp2
  rw [rounds_succ]
  go_wp2
  rw [rounds_succ]
  go_wp2
  rw [rounds_succ]
  go_wp2
  rw [rounds_succ]
  go_wp2
  rw [rounds_succ]
  go_wp2
  rw [rounds_succ]
  go_wp2_with fail
  refine (hU _).mono ?_
  rintro e w' ⟨rfl, rfl⟩
  go_wp2
  go_ret2
  exact ⟨rfl, hB⟩

set_option maxRecDepth 100000 in
set_option maxHeartbeats 1000000 in
theorem char_uhigh (s : ByteArray) (k : Nat) (_hk : k < s.size) (_hs : (s.size : Int) ≤ 10000) (w : World) (hF : FirstIs (s.extract k s.size) 92 1 w) (hk1 : k + 1 < s.size) (ix : (s[k + 1]'hk1).toNat = 117) (a : Int) (hU : LawU s ((k : Int) + 2) a) (h : 57343 < a) (h2 : a < 65536) :
    Calls Tryz.prog 71 #[.string s, .int .i64 (k : Int)] w fun e w' => e = .returned (.tuple #[.int .i32 a, .int .i64 6]) ∧ Below w.heap.size w w' := by
  have zk : (k : Int) ≤ (s.size : Int) := by omega
  have f0 : ¬ (s.size : Int) ≤ (k : Int) + 1 := by omega
  have f1 : (0 : Int) ≤ (k : Int) + 1 := by omega
  have f2 : ¬ a < 0 := by omega
  have f3 : 56320 ≤ a := by omega
  have f4 : ¬ a ≤ 57343 := by omega
  have f5 : ¬ a < 55296 := by omega
  go_enter Tryz.func71, Tryz.ntmps71
  go_wp2_with fail
  refine hF.mono ?_
  rintro e w1 ⟨rfl, hb1⟩
  obtain ⟨W, hcv, hbW, c0, c1, c2, c3, c4, c5, c6, c7⟩ := kc8 w1
  have hB := hb1.trans (hbW.mono hb1.size)
  go_wp2
  refine wp_loop_rounds 9 ?_
  rw [rounds_succ]
  go_wp2
  rw [rounds_succ]
  go_wp2
  rw [rounds_succ]
  go_wp2
  rw [rounds_succ]
  go_wp2
  rw [rounds_succ]
  go_wp2
  rw [rounds_succ]
  go_wp2
  rw [rounds_succ]
  go_wp2
  rw [rounds_succ]
  go_wp2
  rw [rounds_succ]
  go_wp2_with fail
  refine (hU _).mono ?_
  rintro e w' ⟨rfl, rfl⟩
  go_wp2
  go_ret2
  exact ⟨rfl, hB⟩

set_option maxRecDepth 100000 in
set_option maxHeartbeats 1000000 in
theorem char_hlow (s : ByteArray) (k : Nat) (_hk : k < s.size) (_hs : (s.size : Int) ≤ 10000) (w : World) (hF : FirstIs (s.extract k s.size) 92 1 w) (hk1 : k + 1 < s.size) (ix : (s[k + 1]'hk1).toNat = 117) (a : Int) (hU : LawU s ((k : Int) + 2) a) (h0 : 55296 ≤ a) (h1 : a < 56320) (b : Int) (hV : LawU s ((k : Int) + 8) b) (h2 : b < 56320) :
    Calls Tryz.prog 71 #[.string s, .int .i64 (k : Int)] w fun e w' => e = .returned (pair2 none) ∧ Below w.heap.size w w' := by
  have zk : (k : Int) ≤ (s.size : Int) := by omega
  have f0 : ¬ (s.size : Int) ≤ (k : Int) + 1 := by omega
  have f1 : (0 : Int) ≤ (k : Int) + 1 := by omega
  have f2 : ¬ a < 0 := by omega
  have f3 : ¬ 56320 ≤ a := by omega
  have f4 : ¬ a < 55296 := by omega
  have f5 : ¬ 57343 < a := by omega
  go_enter Tryz.func71, Tryz.ntmps71
  go_wp2_with fail
  refine hF.mono ?_
  rintro e w1 ⟨rfl, hb1⟩
  obtain ⟨W, hcv, hbW, c0, c1, c2, c3, c4, c5, c6, c7⟩ := kc8 w1
  have hB := hb1.trans (hbW.mono hb1.size)
  go_wp2
  refine wp_loop_rounds 9 ?_
  rw [rounds_succ]
  go_wp2
  rw [rounds_succ]
  go_wp2
  rw [rounds_succ]
  go_wp2
  rw [rounds_succ]
  go_wp2
  rw [rounds_succ]
  go_wp2
  rw [rounds_succ]
  go_wp2
  rw [rounds_succ]
  go_wp2
  rw [rounds_succ]
  go_wp2
  rw [rounds_succ]
  go_wp2_with fail
  refine (hU _).mono ?_
  rintro e w' ⟨rfl, rfl⟩
  go_wp2_with fail
  refine (hV _).mono ?_
  rintro e w' ⟨rfl, rfl⟩
  go_wp2
  go_ret2
  exact ⟨rfl, hB⟩

set_option maxRecDepth 100000 in
set_option maxHeartbeats 1000000 in
theorem char_hhigh (s : ByteArray) (k : Nat) (_hk : k < s.size) (_hs : (s.size : Int) ≤ 10000) (w : World) (hF : FirstIs (s.extract k s.size) 92 1 w) (hk1 : k + 1 < s.size) (ix : (s[k + 1]'hk1).toNat = 117) (a : Int) (hU : LawU s ((k : Int) + 2) a) (h0 : 55296 ≤ a) (h1 : a < 56320) (b : Int) (hV : LawU s ((k : Int) + 8) b) (h2 : 57343 < b) :
    Calls Tryz.prog 71 #[.string s, .int .i64 (k : Int)] w fun e w' => e = .returned (pair2 none) ∧ Below w.heap.size w w' := by
  have zk : (k : Int) ≤ (s.size : Int) := by omega
  have f0 : ¬ (s.size : Int) ≤ (k : Int) + 1 := by omega
  have f1 : (0 : Int) ≤ (k : Int) + 1 := by omega
  have f2 : ¬ a < 0 := by omega
  have f3 : ¬ 56320 ≤ a := by omega
  have f4 : ¬ a < 55296 := by omega
  have f5 : ¬ 57343 < a := by omega
  have f6 : ¬ b < 56320 := by omega
  go_enter Tryz.func71, Tryz.ntmps71
  go_wp2_with fail
  refine hF.mono ?_
  rintro e w1 ⟨rfl, hb1⟩
  obtain ⟨W, hcv, hbW, c0, c1, c2, c3, c4, c5, c6, c7⟩ := kc8 w1
  have hB := hb1.trans (hbW.mono hb1.size)
  go_wp2
  refine wp_loop_rounds 9 ?_
  rw [rounds_succ]
  go_wp2
  rw [rounds_succ]
  go_wp2
  rw [rounds_succ]
  go_wp2
  rw [rounds_succ]
  go_wp2
  rw [rounds_succ]
  go_wp2
  rw [rounds_succ]
  go_wp2
  rw [rounds_succ]
  go_wp2
  rw [rounds_succ]
  go_wp2
  rw [rounds_succ]
  go_wp2_with fail
  refine (hU _).mono ?_
  rintro e w' ⟨rfl, rfl⟩
  go_wp2_with fail
  refine (hV _).mono ?_
  rintro e w' ⟨rfl, rfl⟩
  go_wp2
  go_ret2
  exact ⟨rfl, hB⟩

set_option maxRecDepth 100000 in
set_option maxHeartbeats 1000000 in
theorem char_hback (s : ByteArray) (k : Nat) (_hk : k < s.size) (_hs : (s.size : Int) ≤ 10000) (w : World) (hF : FirstIs (s.extract k s.size) 92 1 w) (hk1 : k + 1 < s.size) (ix : (s[k + 1]'hk1).toNat = 117) (a : Int) (hU : LawU s ((k : Int) + 2) a) (h0 : 55296 ≤ a) (h1 : a < 56320) (b : Int) (hV : LawU s ((k : Int) + 8) b) (h2 : 56320 ≤ b) (h3 : b ≤ 57343) (hk6 : k + 6 < s.size) (hk7 : k + 7 < s.size) (c : Int) (i6 : (((s[k + 6]'hk6).toNat : Nat) : Int) = c) (g6 : (c != 92) = true) :
    Calls Tryz.prog 71 #[.string s, .int .i64 (k : Int)] w fun e w' => e = .returned (pair2 none) ∧ Below w.heap.size w w' := by
  have zk : (k : Int) ≤ (s.size : Int) := by omega
  have f0 : ¬ (s.size : Int) ≤ (k : Int) + 1 := by omega
  have f1 : (0 : Int) ≤ (k : Int) + 1 := by omega
  have f2 : ¬ a < 0 := by omega
  have f3 : ¬ 56320 ≤ a := by omega
  have f4 : ¬ a < 55296 := by omega
  have f5 : ¬ 57343 < a := by omega
  have f6 : ¬ b < 56320 := by omega
  have f7 : ¬ 57343 < b := by omega
  have f8 : (k : Int) + 6 < (s.size : Int) := by omega
  have f9 : (0 : Int) ≤ (k : Int) + 6 := by omega
  have f10 : (k : Int) + 7 < (s.size : Int) := by omega
  have f11 : (0 : Int) ≤ (k : Int) + 7 := by omega
  go_enter Tryz.func71, Tryz.ntmps71
  go_wp2_with fail
  refine hF.mono ?_
  rintro e w1 ⟨rfl, hb1⟩
  obtain ⟨W, hcv, hbW, c0, c1, c2, c3, c4, c5, c6, c7⟩ := kc8 w1
  have hB := hb1.trans (hbW.mono hb1.size)
  go_wp2
  refine wp_loop_rounds 9 ?_
  rw [rounds_succ]
  go_wp2
  rw [rounds_succ]
  go_wp2
  rw [rounds_succ]
  go_wp2
  rw [rounds_succ]
  go_wp2
  rw [rounds_succ]
  go_wp2
  rw [rounds_succ]
  go_wp2
  rw [rounds_succ]
  go_wp2
  rw [rounds_succ]
  go_wp2
  rw [rounds_succ]
  go_wp2_with fail
  refine (hU _).mono ?_
  rintro e w' ⟨rfl, rfl⟩
  go_wp2_with fail
  refine (hV _).mono ?_
  rintro e w' ⟨rfl, rfl⟩
  go_wp2
  go_ret2
  exact ⟨rfl, hB⟩

set_option maxRecDepth 100000 in
set_option maxHeartbeats 1000000 in
theorem char_hu (s : ByteArray) (k : Nat) (_hk : k < s.size) (_hs : (s.size : Int) ≤ 10000) (w : World) (hF : FirstIs (s.extract k s.size) 92 1 w) (hk1 : k + 1 < s.size) (ix : (s[k + 1]'hk1).toNat = 117) (a : Int) (hU : LawU s ((k : Int) + 2) a) (h0 : 55296 ≤ a) (h1 : a < 56320) (b : Int) (hV : LawU s ((k : Int) + 8) b) (h2 : 56320 ≤ b) (h3 : b ≤ 57343) (hk6 : k + 6 < s.size) (hk7 : k + 7 < s.size) (i6 : (s[k + 6]'hk6).toNat = 92) (c : Int) (i7 : (((s[k + 7]'hk7).toNat : Nat) : Int) = c) (g7 : (c != 117) = true) :
    Calls Tryz.prog 71 #[.string s, .int .i64 (k : Int)] w fun e w' => e = .returned (pair2 none) ∧ Below w.heap.size w w' := by
  have zk : (k : Int) ≤ (s.size : Int) := by omega
  have f0 : ¬ (s.size : Int) ≤ (k : Int) + 1 := by omega
  have f1 : (0 : Int) ≤ (k : Int) + 1 := by omega
  have f2 : ¬ a < 0 := by omega
  have f3 : ¬ 56320 ≤ a := by omega
  have f4 : ¬ a < 55296 := by omega
  have f5 : ¬ 57343 < a := by omega
  have f6 : ¬ b < 56320 := by omega
  have f7 : ¬ 57343 < b := by omega
  have f8 : (k : Int) + 6 < (s.size : Int) := by omega
  have f9 : (0 : Int) ≤ (k : Int) + 6 := by omega
  have f10 : (k : Int) + 7 < (s.size : Int) := by omega
  have f11 : (0 : Int) ≤ (k : Int) + 7 := by omega
  go_enter Tryz.func71, Tryz.ntmps71
  go_wp2_with fail
  refine hF.mono ?_
  rintro e w1 ⟨rfl, hb1⟩
  obtain ⟨W, hcv, hbW, c0, c1, c2, c3, c4, c5, c6, c7⟩ := kc8 w1
  have hB := hb1.trans (hbW.mono hb1.size)
  go_wp2
  refine wp_loop_rounds 9 ?_
  rw [rounds_succ]
  go_wp2
  rw [rounds_succ]
  go_wp2
  rw [rounds_succ]
  go_wp2
  rw [rounds_succ]
  go_wp2
  rw [rounds_succ]
  go_wp2
  rw [rounds_succ]
  go_wp2
  rw [rounds_succ]
  go_wp2
  rw [rounds_succ]
  go_wp2
  rw [rounds_succ]
  go_wp2_with fail
  refine (hU _).mono ?_
  rintro e w' ⟨rfl, rfl⟩
  go_wp2_with fail
  refine (hV _).mono ?_
  rintro e w' ⟨rfl, rfl⟩
  go_wp2
  go_ret2
  exact ⟨rfl, hB⟩

set_option maxRecDepth 100000 in
set_option maxHeartbeats 1000000 in
theorem char_two (s : ByteArray) (k : Nat) (_hk : k < s.size) (_hs : (s.size : Int) ≤ 10000) (w : World) (hF : FirstIs (s.extract k s.size) 92 1 w) (hk1 : k + 1 < s.size) (ix : (s[k + 1]'hk1).toNat = 117) (a : Int) (hU : LawU s ((k : Int) + 2) a) (h0 : 55296 ≤ a) (h1 : a < 56320) (b : Int) (hV : LawU s ((k : Int) + 8) b) (h2 : 56320 ≤ b) (h3 : b ≤ 57343) (hk6 : k + 6 < s.size) (hk7 : k + 7 < s.size) (i6 : (s[k + 6]'hk6).toNat = 92) (i7 : (s[k + 7]'hk7).toNat = 117) :
    Calls Tryz.prog 71 #[.string s, .int .i64 (k : Int)] w fun e w' => e = .returned (.tuple #[.int .i32 (65536 + (a - 55296) * 1024 + b - 56320), .int .i64 12]) ∧ Below w.heap.size w w' := by
  have zk : (k : Int) ≤ (s.size : Int) := by omega
  have f0 : ¬ (s.size : Int) ≤ (k : Int) + 1 := by omega
  have f1 : (0 : Int) ≤ (k : Int) + 1 := by omega
  have f2 : ¬ a < 0 := by omega
  have f3 : ¬ 56320 ≤ a := by omega
  have f4 : ¬ a < 55296 := by omega
  have f5 : ¬ 57343 < a := by omega
  have f6 : ¬ b < 56320 := by omega
  have f7 : ¬ 57343 < b := by omega
  have f8 : (k : Int) + 6 < (s.size : Int) := by omega
  have f9 : (0 : Int) ≤ (k : Int) + 6 := by omega
  have f10 : (k : Int) + 7 < (s.size : Int) := by omega
  have f11 : (0 : Int) ≤ (k : Int) + 7 := by omega
  go_enter Tryz.func71, Tryz.ntmps71
  go_wp2_with fail
  refine hF.mono ?_
  rintro e w1 ⟨rfl, hb1⟩
  obtain ⟨W, hcv, hbW, c0, c1, c2, c3, c4, c5, c6, c7⟩ := kc8 w1
  have hB := hb1.trans (hbW.mono hb1.size)
  go_wp2
  refine wp_loop_rounds 9 ?_
  rw [rounds_succ]
  go_wp2
  rw [rounds_succ]
  go_wp2
  rw [rounds_succ]
  go_wp2
  rw [rounds_succ]
  go_wp2
  rw [rounds_succ]
  go_wp2
  rw [rounds_succ]
  go_wp2
  rw [rounds_succ]
  go_wp2
  rw [rounds_succ]
  go_wp2
  rw [rounds_succ]
  go_wp2_with fail
  refine (hU _).mono ?_
  rintro e w' ⟨rfl, rfl⟩
  go_wp2_with fail
  refine (hV _).mono ?_
  rintro e w' ⟨rfl, rfl⟩
  go_wp2
  go_ret2
  exact ⟨rfl, hB⟩

end Go.Proofs.YtdcaohnaiepllaaGreatDoor
