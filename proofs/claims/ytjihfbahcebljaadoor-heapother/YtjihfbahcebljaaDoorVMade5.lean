/-
  The law's Made, Of and Doc by their contracts. No conditions beyond those stated.
-/
import Derived.Test.YtjihfbahcebljaaDoorVMade4
namespace Go.Proofs.YtjihfbahcebljaaDoor
open Go.RowKit

theorem Made_any : ∀ (d : Nat), d ≤ 100 → MakesAt d ((d : Int) + 1)
  | d, hd, W, s, [], hb, hT => by
    obtain ⟨a, cap, rfl, _, _, _⟩ := hb
    exact Made_empty d _ a cap W
  | d, hd, W, s, u :: bs, hb, hT => by
    obtain ⟨a, cap, rfl⟩ : ∃ a cap, s = .slice a (u :: bs).length cap := by
      obtain ⟨a, cap, h, _⟩ := hb
      exact ⟨a, cap, h⟩
    have hr : (u.toNat : Int) % 6 = 0 ∨ (u.toNat : Int) % 6 = 1 ∨ (u.toNat : Int) % 6 = 2 ∨ (u.toNat : Int) % 6 = 3 ∨ (u.toNat : Int) % 6 = 4 ∨ (u.toNat : Int) % 6 = 5 := by omega
    rcases hr with hr | hr | hr | hr | hr | hr
    · exact Made_zero d _ u bs a cap W hb hr
    · exact Made_bool d _ u bs a cap W hb hr
    · exact Made_int d _ u bs a cap W hb hr
    · exact Made_text d _ u bs a cap W hb hT hr
    · cases d with
      | zero => exact Made_four 0 _ u bs a cap W hb (by simp) hr
      | succ d =>
        have ih := Made_any d (by omega)
        rw [show ((d : Int) + 1) = (((d + 1 : Nat) : Int) + 1) - 1 by omega] at ih
        exact Made_list d _ (by omega) (by omega) ih u bs a cap W hb hT hr
    · cases d with
      | zero => exact Made_five 0 _ u bs a cap W hb (by simp) hr
      | succ d =>
        have ih := Made_any d (by omega)
        rw [show ((d : Int) + 1) = (((d + 1 : Nat) : Int) + 1) - 1 by omega] at ih
        refine (Made_obj d _ (by omega) (by omega) ih u bs a cap W hb hT hr).mono ?_
        rintro e w' ⟨x, l, f, r, he, h, _⟩
        exact ⟨x, l, f, r, he, h⟩

theorem BytesAt.take {W : World} {a : Option Addr} {cap : Nat} {bs : List UInt8} (h : BytesAt W (.slice a bs.length cap) bs) (n : Nat) : BytesAt W (.slice a (bs.take n).length cap) (bs.take n) := by
  obtain ⟨a', cap', h1, h2, h3, h4⟩ := h
  simp only [Value.slice.injEq, true_and] at h1
  obtain ⟨rfl, rfl⟩ := h1
  refine ⟨_, _, rfl, by simp; omega, h3, fun hne => ?_⟩
  obtain ⟨b, o, e, h6⟩ := h4 (fun e => hne (by rw [e]; simp))
  refine ⟨b, o, e, fun j v hj => h6 j v ?_⟩
  rw [List.getElem?_take] at hj
  split at hj
  · exact hj
  · cases hj

/-- a value as the law makes it, and where it lies. -/
def OfV (w w' : World) (x : V) (l f : Value) : Prop := Nice 3 x ∧ Rep (fun k => w.heap.size ≤ k) 3 w' x l f ∧ Below w.heap.size w w'

set_option maxHeartbeats 1000000 in
theorem Of_any (s : Value) (bs : List UInt8) (w : World) (hb : BytesAt w s bs) (hT : Tabs w) : Calls Tryd.prog 19 #[s] w
    fun e w' => ∃ x l f, e = .returned (.agg #[.int .i64 x.kind, .int .i64 x.num, .string x.text, l, f]) ∧ OfV w w' x l f := by
  obtain ⟨a, cap, rfl⟩ : ∃ a cap, s = .slice a bs.length cap := by
    obtain ⟨a, cap, h, _⟩ := hb
    exact ⟨a, cap, h⟩
  have hcap : bs.length ≤ cap ∧ cap ≤ 9223372036854775807 := by
    obtain ⟨a', cap', h1, h2, h3, h4⟩ := hb
    simp only [Value.slice.injEq, true_and] at h1
    obtain ⟨rfl, rfl⟩ := h1
    exact ⟨h2, h3⟩
  obtain ⟨h1, h2⟩ := hcap
  have hbt := hb.take 60
  rw [List.length_take] at hbt
  have hm0 : 0 ≤ min (bs.length : Int) 60 := by omega
  have hm1 : min (bs.length : Int) 60 ≤ (cap : Int) := by omega
  have hmn : (min (bs.length : Int) 60).toNat = min 60 bs.length := by omega
  have hM := fun o => Made_any 3 (by omega) (w.alloc o) _ _ (hbt.below ((Below.refl _ _).alloc (Nat.le_refl _) _)) (hT.below ((Below.refl _ _).alloc (Nat.le_refl _) _))
  rw [show (((3 : Nat) : Int) + 1) = 4 from rfl] at hM
  clear hbt hb
  go_enter Tryd.func19, Tryd.ntmps19
  go_wp2_with fail
  refine (hM _).mono ?_
  rintro e w1 ⟨x, l, f, r, rfl, hnx, hrx, -, hb1⟩
  obtain ⟨bl, dl, bf, df, rfl, rfl⟩ := hrx.slices
  have q1 := row_below hb1 (heap_alloc_new w _)
  obtain ⟨o0, o1, o2, o3, o4, of⟩ := row5 q1
  have hz1 : w.heap.size < w1.heap.size := lt_of_heap q1
  have hB1 : Below w.heap.size w w1 := ((Below.refl _ _).alloc (Nat.le_refl _) _).trans (hb1.mono (by simp))
  have S := (show Hid _ from And.intro hnx hrx)
  clear hnx hrx hb1 q1
  go_wp2
  refine bodyPost_ret (v := .agg #[.int .i64 x.kind, .int .i64 x.num, .string x.text, .slice bl x.list.length dl, .slice bf x.fields.length df]) (by simp [results, Tryd.results19, go_sem, o0, o1, o2, o3, o4, hz1]) rfl ⟨x, _, _, rfl, S.out.1, ?_, ?_⟩
  · refine S.out.2.move fun b hb hl => ⟨by simp at hb; omega, ?_⟩
    rw [Below.heap_alloc _ _ b (by simpa using hl)]
    exact set5W_ne w1 w.heap.size 0 1 2 3 4 _ _ _ _ _ (by simp at hb; omega)
  · exact (set5W_below hB1 (Nat.le_refl _) 0 1 2 3 4 _ _ _ _ _).alloc (by rw [set5W_size]; omega) _
end Go.Proofs.YtjihfbahcebljaaDoor
