/-
  KeyBehind's walk: behind a key there is nothing ahead of what is told. Conditions: as stated.
-/
import Derived.Test.YtehjdamdlokoaaaDoorKAw
import Derived.Test.YtehjdamdlokoaaaDoorKRow
import Derived.Test.YtehjdamdlokoaaaDoorVFind
namespace Go.Proofs.YtehjdamdlokoaaaDoor
open Go.RowKit

theorem behind_more : ∀ k : List UInt8, cmpB (k ++ [0]) k = 1
  | [] => rfl
  | x :: xs => by
    have ih := behind_more xs
    simp only [List.cons_append, cmpB, Nat.lt_irrefl, if_false]
    exact ih
theorem behind_next : ∀ k l : List UInt8, cmpB l k = 1 → ¬ cmpB l (k ++ [0]) < 0
  | [], [], h => by simp [cmpB] at h
  | [], y :: ys, _ => by
    simp only [List.nil_append, cmpB]
    have h0 : (0 : UInt8).toNat = 0 := rfl
    rw [h0]
    split
    · omega
    · split
      · omega
      · cases ys <;> simp [cmpB]
  | x :: xs, [], h => by simp [cmpB] at h
  | x :: xs, y :: ys, h => by
    have ih := behind_next xs ys
    simp only [List.cons_append, cmpB] at h ⊢
    split
    · rename_i h1; rw [if_pos h1] at h; omega
    · rename_i h1
      rw [if_neg h1] at h
      split
      · omega
      · rename_i h2
        rw [if_neg h2] at h
        exact ih h

set_option maxRecDepth 100000 in
set_option maxHeartbeats 4000000 in
theorem KeyBehind_walk (s0 s1 : ByteArray) (_ : s0.size ≤ maxLen) (_ : s1.size ≤ maxLen) (W : World) (hU : U8 W) :
    Calls Tryd.prog 8 #[.string s0, .string s1] W fun e w' => e = .returned (.bool true) ∧ Below W.heap.size W w' := by
  have haw := awake_true W hU
  have m0 : 0 ≤ min (s0.size : Int) 100 := by omega
  have m1 : min (s0.size : Int) 100 ≤ (s0.size : Int) := by omega
  have m2 : 0 ≤ min (s1.size : Int) 100 := by omega
  have m3 : min (s1.size : Int) 100 ≤ (s1.size : Int) := by omega
  have hz : (s0.extract 0 (min (s0.size : Int) 100).toNat).size ≤ 1000000 := by simp; omega
  clear hU
  go_enter Tryd.func8, Tryd.ntmps8
  go_wp2_with fail
  refine haw.mono ?_
  rintro e w1 ⟨rfl, hb1⟩
  have H1 := (show Hid _ from hb1)
  clear haw hb1
  go_wp2_with fail
  go_region
  generalize s0.extract 0 (min (s0.size : Int) 100).toNat = k at *
  generalize s1.extract 0 (min (s1.size : Int) 100).toNat = l at *
  clear m0 m1 m2 m3
  go_wp2_with fail
  refine (Behind_any k _ hz).mono ?_
  rintro e w2 ⟨rfl, hw2⟩
  obtain ⟨B, hB⟩ : ∃ B : ByteArray, (⟨(k.data.toList ++ [0]).toArray⟩ : ByteArray) = B := ⟨_, rfl⟩
  rw [hB]
  have hBl : B.data.toList = k.data.toList ++ [0] := by rw [← hB]
  have hT : ∀ p q : ByteArray, cmpT p q = cmpB p.data.toList q.data.toList := fun p q => by unfold cmpT; rw [Lib.toList_data, Lib.toList_data]
  have c1 : cmpT B k = 1 := by rw [hT, hBl]; exact behind_more _
  have l1 : Op.bytesLess B.toList k.toList = false := by rw [bytesLess_eq]; exact decide_eq_false (by have : cmpB B.toList k.toList = 1 := c1; omega)
  have g1 : (B.toList == k.toList) = false := by rw [beq_cmpT, c1]; rfl
  have c3 : cmpT l k = 1 → ¬ cmpT l B < 0 := by rw [hT, hT, hBl]; exact behind_next _ _
  have l2 : Op.bytesLess l.toList k.toList = decide (cmpT l k < 0) := bytesLess_eq _ _
  have g2 := beq_cmpT l k
  have l3 : Op.bytesLess l.toList B.toList = decide (cmpT l B < 0) := bytesLess_eq _ _
  have hr : cmpT l k = -1 ∨ cmpT l k = 0 ∨ cmpT l k = 1 := cmpB_range _ _
  have HB : Hid (Below W.heap.size W w2) := by rw [hw2]; exact H1.out.drew
  clear hB hBl hT c1 hw2 H1
  rcases hr with h | h | h
  · rw [h] at l2 g2
    simp only [show decide ((-1 : Int) < 0) = true from rfl, show decide ((-1 : Int) = 0) = false from rfl] at l2 g2
    clear l3 c3 h
    go_wp2_with fail
    go_ret
    exact ⟨rfl, HB.out⟩
  · rw [h] at l2 g2
    simp only [show decide ((0 : Int) < 0) = false from rfl] at l2 g2
    clear l3 c3 h
    go_wp2_with fail
    go_ret
    exact ⟨rfl, HB.out⟩
  · rw [decide_eq_false (c3 h)] at l3
    rw [h] at l2 g2
    simp only [show decide ((1 : Int) < 0) = false from rfl, show decide ((1 : Int) = 0) = false from rfl] at l2 g2
    clear c3 h
    go_wp2_with fail
    go_ret
    exact ⟨rfl, HB.out⟩
end Go.Proofs.YtehjdamdlokoaaaDoor
