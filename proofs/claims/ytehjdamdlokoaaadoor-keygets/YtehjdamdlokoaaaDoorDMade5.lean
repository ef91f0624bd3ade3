/-
  The law's Made and Of by their contracts, which value they make. No conditions beyond those stated.
-/
import Derived.Test.YtehjdamdlokoaaaDoorDMade4
import Derived.Test.YtehjdamdlokoaaaDoorVMade5
namespace Go.Proofs.YtehjdamdlokoaaaDoor
open Go.RowKit

theorem PMade_any : ∀ (d : Nat), d ≤ 100 → PMakesAt d ((d : Int) + 1)
  | d, hd, W, s, [], hb, hT => by
    obtain ⟨a, cap, rfl, _, _, _⟩ := hb
    exact PMade_empty d _ a cap W
  | d, hd, W, s, u :: bs, hb, hT => by
    obtain ⟨a, cap, rfl⟩ : ∃ a cap, s = .slice a (u :: bs).length cap := by
      obtain ⟨a, cap, h, _⟩ := hb
      exact ⟨a, cap, h⟩
    have hr : (u.toNat : Int) % 6 = 0 ∨ (u.toNat : Int) % 6 = 1 ∨ (u.toNat : Int) % 6 = 2 ∨ (u.toNat : Int) % 6 = 3 ∨ (u.toNat : Int) % 6 = 4 ∨ (u.toNat : Int) % 6 = 5 := by omega
    rcases hr with hr | hr | hr | hr | hr | hr
    · exact PMade_zero d _ u bs a cap W hb hr
    · exact PMade_bool d _ u bs a cap W hb hr
    · exact PMade_int d _ u bs a cap W hb hr
    · exact PMade_text d _ u bs a cap W hb hT hr
    · cases d with
      | zero => exact PMade_four _ u bs a cap W hb (by simp) hr
      | succ d =>
        have ih := PMade_any d (by omega)
        rw [show ((d : Int) + 1) = (((d + 1 : Nat) : Int) + 1) - 1 by omega] at ih
        exact PMade_list d _ (by omega) (by omega) ih u bs a cap W hb hT hr
    · cases d with
      | zero => exact PMade_five _ u bs a cap W hb (by simp) hr
      | succ d =>
        have ih := PMade_any d (by omega)
        rw [show ((d : Int) + 1) = (((d + 1 : Nat) : Int) + 1) - 1 by omega] at ih
        refine (PMade_obj d _ (by omega) (by omega) ih u bs a cap W hb hT hr).mono ?_
        rintro e w' ⟨x, l, f, r, he, h, _⟩
        exact ⟨x, l, f, r, he, h⟩

set_option maxHeartbeats 1000000 in
theorem Of_is (s : Value) (bs : List UInt8) (w : World) (hb : BytesAt w s bs) (hT : Tabs w) : Calls Tryd.prog 10 #[s] w
    fun e w' => ∃ x l f, e = .returned (.agg #[.int .i64 x.kind, .int .i64 x.num, .string x.text, l, f]) ∧ x = (madeP 3 (bs.take 60)).1 ∧ OfV w w' x l f := by
  obtain ⟨a, cap, rfl⟩ : ∃ a cap, s = .slice a bs.length cap := by
    obtain ⟨a, cap, h, _⟩ := hb
    exact ⟨a, cap, h⟩
  have hcap : bs.length ≤ cap ∧ cap ≤ 9223372036854775807 := by
    obtain ⟨a', cap', h1, h2, h3, h4⟩ := hb
    simp only [Value.slice.injEq, true_and] at h1
    obtain ⟨rfl, rfl⟩ := h1
    exact ⟨h2, h3⟩
  obtain ⟨h1, h2⟩ := hcap
  have hbt := hb.take 60
  rw [List.length_take] at hbt
  have hm0 : 0 ≤ min (bs.length : Int) 60 := by omega
  have hm1 : min (bs.length : Int) 60 ≤ (cap : Int) := by omega
  have hmn : (min (bs.length : Int) 60).toNat = min 60 bs.length := by omega
  have hM := fun o => PMade_any 3 (by omega) (w.alloc o) _ _ (hbt.below ((Below.refl _ _).alloc (Nat.le_refl _) _)) (hT.below ((Below.refl _ _).alloc (Nat.le_refl _) _))
  rw [show (((3 : Nat) : Int) + 1) = 4 from rfl] at hM
  clear hbt hb
  go_enter Tryd.func10, Tryd.ntmps10
  go_wp2_with fail
  refine (hM _).mono ?_
  rintro e w1 ⟨x, l, f, r, rfl, hnx, hrx, ⟨-, hxp⟩, hb1⟩
  obtain ⟨bl, dl, bf, df, rfl, rfl⟩ := hrx.slices
  have q1 := row_below hb1 (heap_alloc_new w _)
  obtain ⟨o0, o1, o2, o3, o4, of⟩ := row5 q1
  have hz1 : w.heap.size < w1.heap.size := lt_of_heap q1
  have hB1 : Below w.heap.size w w1 := ((Below.refl _ _).alloc (Nat.le_refl _) _).trans (hb1.mono (by simp))
  have S := (show Hid _ from And.intro hnx hrx)
  have HX := (show Hid _ from hxp)
  clear hnx hrx hb1 q1 hxp
  go_wp2
  refine bodyPost_ret (v := .agg #[.int .i64 x.kind, .int .i64 x.num, .string x.text, .slice bl x.list.length dl, .slice bf x.fields.length df]) (by simp [results, Tryd.results10, go_sem, o0, o1, o2, o3, o4, hz1]) rfl ⟨x, _, _, rfl, HX.out, S.out.1, ?_, ?_⟩
  · refine S.out.2.move fun b hb hl => ⟨by simp at hb; omega, ?_⟩
    rw [Below.heap_alloc _ _ b (by simpa using hl)]
    exact set5W_ne w1 w.heap.size 0 1 2 3 4 _ _ _ _ _ (by simp at hb; omega)
  · exact (set5W_below hB1 (Nat.le_refl _) 0 1 2 3 4 _ _ _ _ _).alloc (by rw [set5W_size]; omega) _
end Go.Proofs.YtehjdamdlokoaaaDoor
