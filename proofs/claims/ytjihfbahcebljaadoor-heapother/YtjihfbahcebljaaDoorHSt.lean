/-
  A heap as the law holds it: its numbers rise from 1 on, none is above the last. All its deeds by their contracts. Conditions: as stated.
-/
import Derived.Test.YtjihfbahcebljaaDoorHSet
namespace Go.Proofs.YtjihfbahcebljaaDoor
open Go.RowKit

def HSt (base : Nat) (W : World) (B : Nat) (rs : List Rec) (last : Int) : Prop := HeapAt base W B rs last ∧ RisesR 0 rs ∧ UpTo last rs ∧ 0 ≤ last ∧ rs.length ≤ 500
section
variable {base B : Nat} {rs : List Rec} {last : Int}
theorem HSt.cells {W W' : World} (h : HSt base W B rs last) (k : Cells W W') : HSt base W' B rs last := ⟨h.1.cells k, h.2⟩
theorem HSt.below {W W' : World} (h : HSt base W B rs last) (k : Below W.heap.size W W') : HSt base W' B rs last := ⟨h.1.below k, h.2⟩
theorem HSt.base_le {W : World} (h : HSt base W B rs last) : base ≤ W.heap.size := by
  have h1 := h.1.1
  have h2 := h.1.lt
  omega

theorem NewH_any (w : World) : Calls Tryd.prog 9 #[] w fun e w' => e = .returned (.pointer (some ⟨w.heap.size, 0, none⟩)) ∧ HSt w.heap.size w' w.heap.size [] 0 ∧ Below w.heap.size w w' :=
  (New_any w).mono fun e w' h => ⟨h.1, ⟨h.2.1, trivial, fun r hr => (by cases hr), Int.le_refl _, Nat.zero_le _⟩, h.2.2⟩
theorem LenH_any (w : World) (h : HSt base w B rs last) : Calls Tryd.prog 11 #[.pointer (some ⟨B, 0, none⟩)] w fun e w' => e = .returned (.int .i64 rs.length) ∧ w' = w := Len_any w h.1
theorem LastH_any (w : World) (h : HSt base w B rs last) : Calls Tryd.prog 12 #[.pointer (some ⟨B, 0, none⟩)] w fun e w' => e = .returned (.int .i64 last) ∧ w' = w := Last_any w h.1
theorem InsH_any (v : V) (l f : Value) (w : World) (h : HSt base w B rs last) (hv : Lies 3 w v l f) (hn : rs.length < 500) (hl : last ≤ 1000000000) :
    Calls Tryd.prog 18 #[.pointer (some ⟨B, 0, none⟩), .agg #[.int .i64 v.kind, .int .i64 v.num, .string v.text, l, f]] w
      fun e w' => e = .returned (.tuple #[.int .i64 (last + 1), .bool true]) ∧ HSt base w' B (rs ++ [(last + 1, v)]) (last + 1) ∧ Kept w w' ∧ Below base w w' :=
  (Insert_room v l f w h.1 hv hn h.base_le (by have := h.2.2.2.1; omega) hl).mono fun e w' k => ⟨k.1, ⟨k.2.1, rises_app h.2.1 h.2.2.1 h.2.2.2.1, upTo_app h.2.2.1, by have := h.2.2.2.1; omega, by simp; omega⟩, k.2.2⟩
theorem FullH_any (v : V) (l f : Value) (w : World) (h : HSt base w B rs last) (hv : Lies 3 w v l f) (hn : 500 ≤ rs.length) :
    Calls Tryd.prog 18 #[.pointer (some ⟨B, 0, none⟩), .agg #[.int .i64 v.kind, .int .i64 v.num, .string v.text, l, f]] w
      fun e w' => e = .returned (.tuple #[.int .i64 0, .bool false]) ∧ Below w.heap.size w w' := Insert_full v l f w h.1 hv hn
theorem SetH_any (k : Int) (v : V) (l f : Value) (w : World) (h : HSt base w B rs last) (hv : Lies 3 w v l f) :
    Calls Tryd.prog 15 #[.pointer (some ⟨B, 0, none⟩), .int .i64 k, .agg #[.int .i64 v.kind, .int .i64 v.num, .string v.text, l, f]] w
      fun e w' => e = .returned (.bool (getR k rs).isSome) ∧ HSt base w' B (setR k v rs) last ∧ Kept w w' ∧ Below base w w' := by
  have hn : rs.length ≤ 1000000 := by have := h.2.2.2.2; omega
  cases hg : getR k rs with
  | none =>
    refine (Set_none k v l f w h.1 h.2.1 hn ?_ hg).mono fun e w' k => ⟨k.1, ?_, below_kept k.2, k.2.mono h.base_le⟩
    · obtain ⟨al, cl, af, cf, e1, e2⟩ := hv.slices
      exact ⟨_, _, _, _, _, _, e1, e2⟩
    · rw [set_noneR hg]; exact h.below k.2
  | some y =>
    exact (Set_some k v l f w h.1 hv h.2.1 hn h.base_le (by rw [hg]; rfl)).mono fun e w' k => ⟨k.1, ⟨k.2.1, rises_setR h.2.1, upTo_set h.2.2.1, h.2.2.2.1, by rw [len_setR]; exact h.2.2.2.2⟩, k.2.2⟩
theorem DelH_any (k : Int) (w : World) (h : HSt base w B rs last) :
    Calls Tryd.prog 16 #[.pointer (some ⟨B, 0, none⟩), .int .i64 k] w
      fun e w' => e = .returned (.bool (getR k rs).isSome) ∧ HSt base w' B (delR k rs) last ∧ Kept w w' ∧ Below base w w' := by
  have hn : rs.length ≤ 1000000 := by have := h.2.2.2.2; omega
  cases hg : getR k rs with
  | none => exact (Delete_none k w h.1 h.2.1 hn hg).mono fun e w' k => ⟨k.1, by rw [del_noneR hg]; exact h.below k.2, below_kept k.2, k.2.mono h.base_le⟩
  | some y =>
    exact (Delete_some k w h.1 h.2.1 hn h.base_le (by rw [hg]; rfl)).mono fun e w' k => ⟨k.1, ⟨k.2.1, rises_delR h.2.1, upTo_del h.2.2.1, h.2.2.2.1, by rw [len_delR]; have := h.2.2.2.2; omega⟩, k.2.2⟩
theorem GetH_any (k : Int) (w : World) (h : HSt base w B rs last) :
    Calls Tryd.prog 13 #[.pointer (some ⟨B, 0, none⟩), .int .i64 k] w fun e w' => ∃ l f, e = .returned (.tuple #[.agg #[.int .i64 ((getR k rs).getD zeroH).kind, .int .i64 ((getR k rs).getD zeroH).num, .string ((getR k rs).getD zeroH).text, l, f], .bool (getR k rs).isSome]) ∧ Lies 5 w' ((getR k rs).getD zeroH) l f ∧ Below w.heap.size w w' := by
  have hn : rs.length ≤ 1000000 := by have := h.2.2.2.2; omega
  cases hg : getR k rs with
  | none => exact (Get_none k w h.1 h.2.1 hn hg).mono fun e w' k => ⟨_, _, k.1, lies_zero, k.2⟩
  | some y => exact (Get_some k y w h.1 h.2.1 hn hg).mono fun e w' ⟨l, f, k⟩ => ⟨l, f, k⟩
theorem NextH_none (k : Int) (w : World) (h : HSt base w B rs last) (hg : nextR k rs = none) :
    Calls Tryd.prog 17 #[.pointer (some ⟨B, 0, none⟩), .int .i64 k] w fun e w' => e = .returned (.tuple #[.agg #[.int .i64 0, .int .i64 0, .int .i64 0, .string ⟨#[]⟩, .slice none 0 0, .slice none 0 0], .bool false]) ∧ Below w.heap.size w w' :=
  NextD_none k w h.1 h.2.1 (by have := h.2.2.2.2; omega) hg
theorem NextH_some (k : Int) (x : Rec) (w : World) (h : HSt base w B rs last) (hg : nextR k rs = some x) :
    Calls Tryd.prog 17 #[.pointer (some ⟨B, 0, none⟩), .int .i64 k] w fun e w' => ∃ l f, e = .returned (.tuple #[.agg #[.int .i64 x.1, .int .i64 x.2.kind, .int .i64 x.2.num, .string x.2.text, l, f], .bool true]) ∧ Lies 5 w' x.2 l f ∧ Below w.heap.size w w' :=
  NextD_some k x w h.1 h.2.1 (by have := h.2.2.2.2; omega) hg
end

def intH (n : Int) : V := ⟨2, n, ⟨#[]⟩, [], []⟩
theorem lies_int {n : Nat} {W : World} {k : Int} : Lies n W (intH k) (.slice none 0 0) (.slice none 0 0) := (show Rep _ 0 W (intH k) _ _ from ⟨rfl, rfl, rfl, rfl⟩ : Rep (fun _ => True) 0 W (intH k) _ _).le (Nat.zero_le n)

set_option maxRecDepth 100000 in
set_option maxHeartbeats 4000000 in
theorem hawake_true (w : World) : Calls Tryd.prog 8 #[] w fun e w' => e = .returned (.bool true) ∧ Below w.heap.size w w' := by
  go_enter Tryd.func8, Tryd.ntmps8
  go_wp2_with fail
  refine (NewH_any w).mono ?_
  rintro e w1 ⟨rfl, h1, hb1⟩
  go_wp2_with fail
  refine (InsH_any zeroH (.slice none 0 0) (.slice none 0 0) w1 h1 lies_zero (by simp) (by omega)).mono ?_
  rintro e w2 ⟨rfl, h2, -, hb2⟩
  go_wp2_with fail
  refine (InsH_any (intH 3) (.slice none 0 0) (.slice none 0 0) w2 h2 lies_int (by simp) (by omega)).mono ?_
  rintro e w3 ⟨rfl, h3, -, hb3⟩
  go_wp2_with fail
  refine (DelH_any 1 w3 h3).mono ?_
  rintro e w4 ⟨rfl, h4, -, hb4⟩
  go_wp2_with fail
  refine (InsH_any zeroH (.slice none 0 0) (.slice none 0 0) w4 h4 lies_zero (by decide) (by omega)).mono ?_
  rintro e w5 ⟨rfl, h5, -, hb5⟩
  have hB5 := hb1.trans (hb2.trans (hb3.trans (hb4.trans hb5)))
  have h5' : HSt w.heap.size w5 w.heap.size [(2, intH 3), (3, zeroH)] 3 := h5
  clear h1 h2 h3 h4 h5 hb1 hb2 hb3 hb4 hb5
  go_wp2_with fail
  refine (NextH_some 0 (2, intH 3) w5 h5' rfl).mono ?_
  rintro e w6 ⟨l, f, rfl, hl6, hb6⟩
  obtain ⟨al, cl, af, cf, rfl, rfl⟩ := hl6.slices
  have hz5 := h5'.base_le
  have h6 := h5'.below hb6
  have hB6 := hB5.trans (hb6.mono hz5)
  have hz6 := h6.base_le
  clear h5' hb6 hB5 hl6
  go_wp2_with fail
  generalize hW : w6.alloc _ = W
  have h7 : HSt w.heap.size W w.heap.size [(2, intH 3), (3, zeroH)] 3 := by rw [← hW]; exact h6.below ((Below.refl _ _).alloc (Nat.le_refl _) _)
  have hB7 : Below w.heap.size w W := by rw [← hW]; exact hB6.alloc hz6 _
  refine (LenH_any W h7).mono ?_
  rintro e w8 ⟨rfl, rfl⟩
  go_wp2_with fail
  refine (LastH_any _ h7).mono ?_
  rintro e w9 ⟨rfl, rfl⟩
  go_wp2
  go_ret
  exact ⟨rfl, hB7⟩
end Go.Proofs.YtjihfbahcebljaaDoor
