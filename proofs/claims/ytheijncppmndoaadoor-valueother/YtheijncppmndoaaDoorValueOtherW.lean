/-
  ValueOther's walk. No conditions beyond those stated.
-/
import Derived.Test.YtheijncppmndoaaDoorVQ
import Derived.Test.YtheijncppmndoaaDoorVDelV
import Derived.Deep.RegionHeld3
namespace Go.Proofs.YtheijncppmndoaaDoor
open Go.RowKit

/-- Set at what is no object, and Same behind it. -/
def SetSame (WW : World) (x : V) (a1 a2 : Option Addr) (c1 c2 : Nat) (r : Ending) (w' : World) : Prop :=
  ∃ al cl af cf, r = .returned (.agg #[.int .i64 x.kind, .int .i64 x.num, .string x.text, .slice al x.list.length cl, .slice af x.fields.length cf]) ∧ Below WW.heap.size WW w' ∧
    Hid (Calls Tryd.prog 13 #[.agg #[.int .i64 x.kind, .int .i64 x.num, .string x.text, .slice al x.list.length cl, .slice af x.fields.length cf], .agg #[.int .i64 x.kind, .int .i64 x.num, .string x.text, .slice a1 x.list.length c1, .slice a2 x.fields.length c2]] w'
      fun e w'' => e = .returned (.bool true) ∧ Below WW.heap.size WW w'')
theorem same_self {n : Nat} {x : V} {la fa lb fb : Value} {WW w : World} (hW : Below WW.heap.size WW w) (ha : Lies n w x la fa) (hb : Lies n w x lb fb) :
    Calls Tryd.prog 13 #[.agg #[.int .i64 x.kind, .int .i64 x.num, .string x.text, la, fa], .agg #[.int .i64 x.kind, .int .i64 x.num, .string x.text, lb, fb]] w fun e w' => e = .returned (.bool true) ∧ Below WW.heap.size WW w' :=
  (Same_is ((good_cmpV (n + 1)).refl x) ha hb).mono fun _ _ ⟨h1, h2⟩ => ⟨h1, hW.trans (h2.mono hW.size)⟩
theorem set_same {n : Nat} {x : V} {a1 a2 : Option Addr} {c1 c2 : Nat} {nm : ByteArray} {WW w : World} (hk : ¬ x.kind = 5) (hl : Lies n WW x (.slice a1 x.list.length c1) (.slice a2 x.fields.length c2)) (hW : Below WW.heap.size WW w) :
    Calls Tryd.prog 17 #[.agg #[.int .i64 x.kind, .int .i64 x.num, .string x.text, .slice a1 x.list.length c1, .slice a2 x.fields.length c2], .string nm, .agg #[.int .i64 x.kind, .int .i64 x.num, .string x.text, .slice a1 x.list.length c1, .slice a2 x.fields.length c2]] w (SetSame WW x a1 a2 c1 c2) := by
  refine (Set_other n x x _ _ _ _ nm w (hl.below hW) (hl.below hW) hk).mono ?_
  rintro e w' ⟨l', f', rfl, hr, hb⟩
  obtain ⟨al, cl, af, cf, rfl, rfl⟩ := hr.slices
  have hW' := hW.trans (hb.mono hW.size)
  exact ⟨al, cl, af, cf, rfl, hW', same_self hW' hr.lies (Rep.up (hl.below hW'))⟩

set_option maxRecDepth 100000 in
set_option maxHeartbeats 1000000 in
theorem ValueOther_walk (v0 : Value) (bs0 : List UInt8) (nm : ByteArray) (_hs : nm.size ≤ 9223372036854775807) (w : World) (hb0 : BytesAt w v0 bs0) (hE : Env w) :
    Calls Tryd.prog 8 #[v0, .string nm] w fun e w' => e = .returned (.bool true) ∧ Below w.heap.size w w' := by
  go_enter Tryd.func8, Tryd.ntmps8
  go_wp2_with fail
  refine (awake_true _ hE.u8).mono ?_
  rintro e w1 ⟨rfl, hB1⟩
  go_wp2_with fail
  refine (Of_any v0 bs0 _ (hb0.below hB1) (hE.below hB1).tabs).mono ?_
  rintro e w2 ⟨x, lx, fx, rfl, hnx, hrx, hb2⟩
  obtain ⟨a1, c1, a2, c2, rfl, rfl⟩ := hrx.slices
  have hB2 := hB1.trans (hb2.mono hB1.size)
  obtain ⟨O1, hO1⟩ : ∃ O, O = Obj.cells #[.int .i64 x.kind, .int .i64 x.num, .string x.text, .slice a1 x.list.length c1, .slice a2 x.fields.length c2] 28 := ⟨_, rfl⟩
  obtain ⟨W, hW⟩ : ∃ W, W = w2.alloc O1 := ⟨_, rfl⟩
  have r1 : W.heap[w2.heap.size]? = some O1 := by rw [hW]; exact heap_alloc_new w2 O1
  have hbW : Below w2.heap.size w2 W := by rw [hW]; exact (Below.refl _ _).alloc (Nat.le_refl _) _
  have lx4 : Lies 3 W x _ _ := (Rep.lies hrx).below hbW
  have hB4 : Below w.heap.size w W := hB2.trans (hbW.mono hB2.size)
  rw [hO1] at r1
  clear hrx hbW hb2 hB1 hB2 hb0 hE hnx
  by_cases hk : x.kind = 5
  · go_wp2_with fail
    go_ret
    rw [hW, hO1, hk] at hB4
    exact ⟨rfl, hB4⟩
  · have hk' : (x.kind == 5) = false := by simpa using hk
    go_wp2_with fail
    rw [← hO1, ← hW]
    have hgv : getV x nm = none := by unfold getV; rw [if_neg hk]
    have hget := Get_any 2 x _ _ nm W lx4
    rw [hgv] at hget
    refine hget.mono ?_
    rintro e w3 ⟨l3, f3, rfl, hg3⟩
    obtain ⟨a3, c3, a4, c4, rfl, rfl⟩ := hg3.1.slices
    have hb3 := hg3.2
    have hz : w2.heap.size < w3.heap.size := by have := hb3.size; rw [hW] at this; simp at this; omega
    have r3 := (hb3.block _ (lt_of_heap r1)).trans r1
    obtain ⟨p0, p1, p2, p3, p4, _⟩ := row5 r3
    clear hget hgv hg3
    go_wp2_with fail
    refine (Del_none 3 x _ _ nm _ (lx4.below (hb3.alloc hb3.size _)) (if_neg hk)).mono ?_
    rintro e w4 ⟨l4, f4, rfl, hg4⟩
    obtain ⟨a5, c5, a6, c6, rfl, rfl⟩ := hg4.1.slices
    have hb4 : Below W.heap.size W w4 := (hb3.alloc hb3.size _).trans (hg4.2.mono (hb3.alloc hb3.size _).size)
    have r4 := (hb4.block _ (lt_of_heap r1)).trans r1
    have hg4' := hg4.1
    obtain ⟨O4, hO4⟩ : ∃ O, O = Obj.cells #[.int .i64 x.kind, .int .i64 x.num, .string x.text, .slice a5 x.list.length c5, .slice a6 x.fields.length c6] 28 := ⟨_, rfl⟩
    obtain ⟨WW, hWW⟩ : ∃ W, W = w4.alloc O4 := ⟨_, rfl⟩
    have hb5 : Below w4.heap.size w4 WW := by rw [hWW]; exact (Below.refl _ _).alloc (Nat.le_refl _) _
    have hb6 : Below W.heap.size W WW := hb4.trans (hb5.mono hb4.size)
    have r5 : WW.heap[w4.heap.size]? = some O4 := by rw [hWW]; exact heap_alloc_new w4 O4
    have r6 := (hb6.block _ (lt_of_heap r1)).trans r1
    have ld : Lies 4 WW x (.slice a5 x.list.length c5) (.slice a6 x.fields.length c6) := (Rep.lies hg4').below hb5
    have lo : Lies 3 WW x (.slice a1 x.list.length c1) (.slice a2 x.fields.length c2) := lx4.below hb6
    rw [hO4] at r5
    clear r4 hg4 hg4' hb5 p0 p1 p2 p3 p4 r3 hz hb3 lx4
    go_wp2_with fail
    rw [← hO4, ← hWW]
    clear hO4 hWW hO1 hW
    have c38 := fun w' (h : Below WW.heap.size WW w') => same_self h (ld.below h) (Rep.up (lo.below h))
    have c44 := fun w' (h : Below WW.heap.size WW w') => set_same (nm := nm) hk lo h
    obtain ⟨p0, p1, p2, p3, p4, _⟩ := row5 r6
    obtain ⟨q0, q1, q2, q3, q4, _⟩ := row5 r5
    have P0 := fun w' (h : Below WW.heap.size WW w') => (h.cell (lt_of_cell p0)).trans p0
    have P1 := fun w' (h : Below WW.heap.size WW w') => (h.cell (lt_of_cell p1)).trans p1
    have P2 := fun w' (h : Below WW.heap.size WW w') => (h.cell (lt_of_cell p2)).trans p2
    have P3 := fun w' (h : Below WW.heap.size WW w') => (h.cell (lt_of_cell p3)).trans p3
    have P4 := fun w' (h : Below WW.heap.size WW w') => (h.cell (lt_of_cell p4)).trans p4
    have Q0 := fun w' (h : Below WW.heap.size WW w') => (h.cell (lt_of_cell q0)).trans q0
    have Q1 := fun w' (h : Below WW.heap.size WW w') => (h.cell (lt_of_cell q1)).trans q1
    have Q2 := fun w' (h : Below WW.heap.size WW w') => (h.cell (lt_of_cell q2)).trans q2
    have Q3 := fun w' (h : Below WW.heap.size WW w') => (h.cell (lt_of_cell q3)).trans q3
    have Q4 := fun w' (h : Below WW.heap.size WW w') => (h.cell (lt_of_cell q4)).trans q4
    have hB6 : Below w.heap.size w WW := hB4.trans (hb6.mono hB4.size)
    have h0 : Below WW.heap.size WW WW := Below.refl _ _
    clear p0 p1 p2 p3 p4 q0 q1 q2 q3 q4 r1 r5 r6 ld lo hb4 hb6 hB4
    go_region_held3 (fun w' => Below WW.heap.size WW w') (first | assumption | exact (Below.refl _ _).drew)
      (first
        | (go_at_call 17; refine (c44 _ ?_).mono ?_; (first | assumption | exact (Below.refl _ _).drew); rintro e w6 ⟨al, cl, af, cf, rfl, hS6, hC⟩)
        | (go_at_call 13; refine hC.out.mono ?_; rintro e w7 ⟨rfl, hS7⟩)
        | (go_at_call 13; refine (c38 _ ?_).mono ?_; (first | assumption | exact (Below.refl _ _).drew); rintro e w5 ⟨rfl, hS5⟩))
    go_wp2_with fail
    go_ret
    exact ⟨rfl, hB6.trans (hS7.mono hB6.size)⟩
end Go.Proofs.YtheijncppmndoaaDoor
