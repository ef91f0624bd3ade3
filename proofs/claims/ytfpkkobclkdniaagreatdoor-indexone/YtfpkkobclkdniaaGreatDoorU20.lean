/-
  What comes in: rows of entries, rows of slices of bytes. No conditions beyond those stated.
  slices.SortFunc of the kit's shelf, laid at this program's numbers. Conditions: as it states.
  slices.SortFunc of entries by the program's order. No conditions beyond those stated.
  Where a number stands among a heap's records: slices.BinarySearchFunc, and the heap's place, by their contracts. No conditions beyond those stated.
  What a heap tells without being changed: New, Len, Last, Get, Next by their contracts. No conditions beyond those stated.
-/
import Derived.Test.YtfpkkobclkdniaaGreatDoorU17
import Derived.Test.YtfpkkobclkdniaaGreatDoorU3
import Derived.Shelf.SlLaysF0
import Derived.Test.YtfpkkobclkdniaaGreatDoorProg
import Derived.Shelf.SlSortCmp.NoneTotal
import Derived.Test.YtfpkkobclkdniaaGreatDoorU15
import Derived.Shelf.Abstract
import Derived.Test.YtfpkkobclkdniaaGreatDoorU4
namespace Go.Proofs.YtfpkkobclkdniaaGreatDoor
open Go.RowKit

/-- entries that came in. -/
def EnsAt (W : World) (s : Value) (l : List En) : Prop :=
  ∃ (a : Option Addr) (cap : Nat), s = .slice a l.length cap ∧ l.length ≤ cap ∧ cap ≤ 9223372036854775807 ∧
    (l ≠ [] → ∃ b o, a = some ⟨b, o, none⟩ ∧ ∀ (j : Nat) (x : En), l[j]? = some x → W.cell? ⟨b, o + j * 2, none⟩ = some (.string x.1) ∧ W.cell? ⟨b, o + j * 2 + 1, none⟩ = some (.int .i64 x.2))
theorem EnsAt.below {W W' : World} {s : Value} {l : List En} (h : EnsAt W s l) (hb : Below W.heap.size W W') : EnsAt W' s l := by
  obtain ⟨a, cap, h1, h2, h3, h5⟩ := h
  refine ⟨a, cap, h1, h2, h3, fun hne => ?_⟩
  obtain ⟨b, o, h6, h7⟩ := h5 hne
  exact ⟨b, o, h6, fun j e hj => by
    obtain ⟨c1, c2⟩ := h7 j e hj
    exact ⟨(hb.cell (lt_of_cell c1)).trans c1, (hb.cell (lt_of_cell c2)).trans c2⟩⟩
theorem EnsAt.slice {W : World} {s : Value} {l : List En} (h : EnsAt W s l) : ∃ a cap, s = .slice a l.length cap ∧ l.length ≤ cap ∧ cap ≤ 9223372036854775807 := by
  obtain ⟨a, cap, h1, h2, h3, _⟩ := h
  exact ⟨a, cap, h1, h2, h3⟩
theorem EnsAt.take {W : World} {a : Option Addr} {n cap : Nat} {l : List En} (h : EnsAt W (.slice a n cap) l) (m : Nat) : EnsAt W (.slice a (min m l.length) cap) (l.take m) := by
  obtain ⟨a', cap', h1, h2, h3, h5⟩ := h
  simp only [Value.slice.injEq] at h1
  refine ⟨a, cap, by rw [List.length_take], by rw [List.length_take]; omega, by omega, fun hne => ?_⟩
  obtain ⟨b, o, h6, h7⟩ := h5 (fun e => hne (by rw [e]; simp))
  refine ⟨b, o, h1.1.trans h6, fun j e hj => h7 j e ?_⟩
  rw [List.getElem?_take] at hj
  split at hj
  · exact hj
  · cases hj
theorem EnsAt.at {W : World} {a : Option Addr} {n cap : Nat} {l : List En} (h : EnsAt W (.slice a n cap) l) {j : Nat} {x : En} (hj : l[j]? = some x) :
    ∃ b o, a = some ⟨b, o, none⟩ ∧ W.cell? ⟨b, o + j * 2, none⟩ = some (.string x.1) ∧ W.cell? ⟨b, o + j * 2 + 1, none⟩ = some (.int .i64 x.2) := by
  obtain ⟨a', cap', h1, h2, h3, h5⟩ := h
  obtain ⟨b, o, h6, h7⟩ := h5 (fun e => by rw [e] at hj; simp at hj)
  obtain ⟨c1, c2⟩ := h7 j x hj
  simp only [Value.slice.injEq] at h1
  exact ⟨b, o, h1.1.trans h6, c1, c2⟩
/-- a row that is owned is one that can be read. -/
theorem EnsAt.of_own {base : Nat} {W : World} {s : Value} {l : List En} (h : W.ownsRow base 58 2 s l.length (encEns l)) (h0 : l.length ≤ 9223372036854775807) : EnsAt W s l := by
  cases l with
  | nil =>
    obtain ⟨a, c, rfl⟩ := slice_of_rowE h
    rcases h.2 with ⟨e1, -⟩ | ⟨g, cap, cur, e1, -, -, h1, h2, -⟩
    · exact ⟨a, c, rfl, Nat.zero_le _, by cases e1; omega, fun h => absurd rfl h⟩
    · exact ⟨a, c, rfl, Nat.zero_le _, by cases e1; unfold maxLen at h2; omega, fun h => absurd rfl h⟩
  | cons x t =>
    obtain ⟨B, c, hv, h1, h2, -, -, -⟩ := row_entry (j := 0) (x := x) h rfl
    refine ⟨some ⟨B, 0, none⟩, c, hv, h1, h2, fun _ => ⟨B, 0, rfl, fun j y hj => ?_⟩⟩
    obtain ⟨B', c', hv', -, -, k0, k1, -⟩ := row_entry (j := j) (x := y) h hj
    rw [hv] at hv'
    cases hv'
    rw [Nat.zero_add]
    exact ⟨k0, k1⟩

/-- slices of bytes that came in. -/
def BssAt (W : World) (s : Value) (l : List (List UInt8)) : Prop :=
  ∃ (a : Option Addr) (cap : Nat), s = .slice a l.length cap ∧ l.length ≤ cap ∧ cap ≤ 9223372036854775807 ∧
    (l ≠ [] → ∃ b o, a = some ⟨b, o, none⟩ ∧ ∀ (j : Nat) (x : List UInt8), l[j]? = some x → ∃ v, W.cell? ⟨b, o + j, none⟩ = some v ∧ BytesAt W v x)
theorem BssAt.below {W W' : World} {s : Value} {l : List (List UInt8)} (h : BssAt W s l) (hb : Below W.heap.size W W') : BssAt W' s l := by
  obtain ⟨a, cap, h1, h2, h3, h5⟩ := h
  refine ⟨a, cap, h1, h2, h3, fun hne => ?_⟩
  obtain ⟨b, o, h6, h7⟩ := h5 hne
  exact ⟨b, o, h6, fun j e hj => by
    obtain ⟨v, c1, c2⟩ := h7 j e hj
    exact ⟨v, (hb.cell (lt_of_cell c1)).trans c1, c2.below hb⟩⟩
theorem BssAt.slice {W : World} {s : Value} {l : List (List UInt8)} (h : BssAt W s l) : ∃ a cap, s = .slice a l.length cap ∧ l.length ≤ cap ∧ cap ≤ 9223372036854775807 := by
  obtain ⟨a, cap, h1, h2, h3, _⟩ := h
  exact ⟨a, cap, h1, h2, h3⟩
theorem BssAt.take {W : World} {a : Option Addr} {n cap : Nat} {l : List (List UInt8)} (h : BssAt W (.slice a n cap) l) (m : Nat) : BssAt W (.slice a (min m l.length) cap) (l.take m) := by
  obtain ⟨a', cap', h1, h2, h3, h5⟩ := h
  simp only [Value.slice.injEq] at h1
  refine ⟨a, cap, by rw [List.length_take], by rw [List.length_take]; omega, by omega, fun hne => ?_⟩
  obtain ⟨b, o, h6, h7⟩ := h5 (fun e => hne (by rw [e]; simp))
  refine ⟨b, o, h1.1.trans h6, fun j e hj => h7 j e ?_⟩
  rw [List.getElem?_take] at hj
  split at hj
  · exact hj
  · cases hj
theorem BssAt.at {W : World} {a : Option Addr} {n cap : Nat} {l : List (List UInt8)} (h : BssAt W (.slice a n cap) l) {j : Nat} {x : List UInt8} (hj : l[j]? = some x) :
    ∃ b o ba bc, a = some ⟨b, o, none⟩ ∧ W.cell? ⟨b, o + j, none⟩ = some (.slice ba x.length bc) ∧ BytesAt W (.slice ba x.length bc) x := by
  obtain ⟨a', cap', h1, h2, h3, h5⟩ := h
  obtain ⟨b, o, h6, h7⟩ := h5 (fun e => by rw [e] at hj; simp at hj)
  obtain ⟨v, c1, c2⟩ := h7 j x hj
  simp only [Value.slice.injEq] at h1
  obtain ⟨ba, bc, rfl, -⟩ := id c2
  exact ⟨b, o, ba, bc, h1.1.trans h6, c1, c2⟩
end Go.Proofs.YtfpkkobclkdniaaGreatDoor

namespace Go.Proofs
open Go.Shelf
def Tryz.sortEn_ren : Go.Shelf.Ren := ⟨fun | 6 => 44 | 15 => 66 | 14 => 65 | 28 => 92 | 29 => 93 | 20 => 84 | 21 => 85 | 22 => 86 | 23 => 87 | 24 => 88 | 25 => 89 | 26 => 90 | 27 => 91 | 46 => 105 | 47 => 106 | 48 => 107 | 49 => 108 | 50 => 109 | 57 => 123 | n => n, fun | 22 => 53 | 24 => 58 | 25 => 98 | 3 => 3 | 39 => 131 | 0 => 0 | 53 => 168 | 55 => 101 | 4 => 4 | 46 => 162 | 45 => 161 | 50 => 90 | 5 => 5 | 9 => 9 | 66 => 184 | 70 => 188 | 76 => 199 | 77 => 200 | n => n, fun | n => n⟩
theorem Tryz.sortEn : Go.Proofs.SlLaysF0.n6 Tryz.prog Tryz.sortEn_ren := {
  mixed := by kernel_rfl
  f6 := ⟨Tryz.f44.name, by decide, Tryz.func44.trans (congrArg some (by kernel_rfl))⟩
  f14 := ⟨Tryz.f65.name, by decide, Tryz.func65.trans (congrArg some (by kernel_rfl))⟩
  f15 := Tryz.func66.trans (congrArg some (by kernel_rfl))
  f20 := ⟨Tryz.f84.name, by decide, Tryz.func84.trans (congrArg some (by kernel_rfl))⟩
  f21 := ⟨Tryz.f85.name, by decide, Tryz.func85.trans (congrArg some (by kernel_rfl))⟩
  f22 := ⟨Tryz.f86.name, by decide, Tryz.func86.trans (congrArg some (by kernel_rfl))⟩
  f23 := ⟨Tryz.f87.name, by decide, Tryz.func87.trans (congrArg some (by kernel_rfl))⟩
  f24 := ⟨Tryz.f88.name, by decide, Tryz.func88.trans (congrArg some (by kernel_rfl))⟩
  f25 := ⟨Tryz.f89.name, by decide, Tryz.func89.trans (congrArg some (by kernel_rfl))⟩
  f26 := ⟨Tryz.f90.name, by decide, Tryz.func90.trans (congrArg some (by kernel_rfl))⟩
  f27 := ⟨Tryz.f91.name, by decide, Tryz.func91.trans (congrArg some (by kernel_rfl))⟩
  f28 := Tryz.func92.trans (congrArg some (by kernel_rfl))
  f29 := Tryz.func93.trans (congrArg some (by kernel_rfl))
  f46 := ⟨Tryz.f105.name, by decide, Tryz.func105.trans (congrArg some (by kernel_rfl))⟩
  f47 := Tryz.func106.trans (congrArg some (by kernel_rfl))
  f48 := Tryz.func107.trans (congrArg some (by kernel_rfl))
  f49 := ⟨Tryz.f108.name, by decide, Tryz.func108.trans (congrArg some (by kernel_rfl))⟩
  f50 := ⟨Tryz.f109.name, by decide, Tryz.func109.trans (congrArg some (by kernel_rfl))⟩
  f57 := ⟨Tryz.f123.name, by decide, Tryz.func123.trans (congrArg some (by kernel_rfl))⟩
  t0 := Tryz.underlying0
  a0 := Tryz.isAgg0
  z0 := Tryz.sizeOf0
  v0 := Tryz.zeroValue0
  t3 := Tryz.underlying3
  a3 := Tryz.isAgg3
  z3 := Tryz.sizeOf3
  v3 := Tryz.zeroValue3
  t4 := Tryz.underlying4
  a4 := Tryz.isAgg4
  z4 := Tryz.sizeOf4
  v4 := Tryz.zeroValue4
  t5 := Tryz.underlying5
  a5 := Tryz.isAgg5
  z5 := Tryz.sizeOf5
  v5 := Tryz.zeroValue5
  t9 := Tryz.underlying9
  a9 := Tryz.isAgg9
  z9 := Tryz.sizeOf9
  v9 := Tryz.zeroValue9
  t22 := Tryz.underlying53
  a22 := Tryz.isAgg53
  z22 := Tryz.sizeOf53
  v22 := Tryz.zeroValue53
  t25 := Tryz.underlying98
  a25 := Tryz.isAgg98
  z25 := Tryz.sizeOf98
  v25 := Tryz.zeroValue98
  t39 := Tryz.underlying131
  a39 := Tryz.isAgg131
  z39 := Tryz.sizeOf131
  v39 := Tryz.zeroValue131
  t45 := Tryz.underlying161
  a45 := Tryz.isAgg161
  z45 := Tryz.sizeOf161
  v45 := Tryz.zeroValue161
  t46 := Tryz.underlying162
  a46 := Tryz.isAgg162
  z46 := Tryz.sizeOf162
  v46 := Tryz.zeroValue162
  t50 := Tryz.underlying90
  a50 := Tryz.isAgg90
  z50 := Tryz.sizeOf90
  v50 := Tryz.zeroValue90
  t53 := Tryz.underlying168
  a53 := Tryz.isAgg168
  z53 := Tryz.sizeOf168
  v53 := Tryz.zeroValue168
  t55 := Tryz.underlying101
  a55 := Tryz.isAgg101
  z55 := Tryz.sizeOf101
  v55 := Tryz.zeroValue101
  t66 := Tryz.underlying184
  a66 := Tryz.isAgg184
  z66 := Tryz.sizeOf184
  v66 := Tryz.zeroValue184
  t70 := Tryz.underlying188
  a70 := Tryz.isAgg188
  z70 := Tryz.sizeOf188
  v70 := Tryz.zeroValue188
  t76 := Tryz.underlying199
  a76 := Tryz.isAgg199
  z76 := Tryz.sizeOf199
  v76 := Tryz.zeroValue199
  t77 := Tryz.underlying200
  a77 := Tryz.isAgg200
  z77 := Tryz.sizeOf200
  v77 := Tryz.zeroValue200 }
end Go.Proofs

namespace Go.Proofs.YtfpkkobclkdniaaGreatDoor
open Go.RowKit Go.Shelf Go.Lib Go.Sort

/-- a world with some draws and blocks more. -/
def Gr (w w' : World) : Prop := ∃ q os, w' = Go.Sort.grow (w.drewN q) os
theorem Gr.drew {w w' : World} (h : Gr w w') : Gr w w'.drew := by
  obtain ⟨q, os, rfl⟩ := h
  exact ⟨q + 1, os, rfl⟩
theorem Gr.alloc {w w' : World} (h : Gr w w') (o : Obj) : Gr w (w'.alloc o) := by
  obtain ⟨q, os, rfl⟩ := h
  exact ⟨q, os ++ #[o], by rw [alloc_eq_grow, grow_grow]⟩
theorem Gr.refl (w : World) : Gr w w := ⟨0, #[], by simp [Go.Sort.grow, World.drewN]⟩
theorem Gr.below {w w' : World} (h : Gr w w') : Below w.heap.size w w' := by
  obtain ⟨q, os, rfl⟩ := h
  exact ⟨rfl, rfl, rfl, by simp [Go.Sort.grow, World.drewN], fun k hk => by simp [Go.Sort.grow, World.drewN, Array.getElem?_append, hk]⟩

theorem cmpB_val : ∀ a b : List UInt8, cmpB a b = -1 ∨ cmpB a b = 0 ∨ cmpB a b = 1
  | [], [] => .inr (.inl rfl)
  | [], _ :: _ => .inl rfl
  | _ :: _, [] => .inr (.inr rfl)
  | x :: xs, y :: ys => by
    unfold cmpB
    split
    · exact .inl rfl
    · split
      · exact .inr (.inr rfl)
      · exact cmpB_val xs ys
theorem nan_any (a : ByteArray) (w : World) : Calls Tryz.prog 94 #[.string a] w fun e w' => e = .returned (.bool false) ∧ w' = w := by
  go_enter Tryz.func94, Tryz.ntmps94
  go_wp2
  go_ret
  exact ⟨rfl, rfl⟩
set_option maxRecDepth 100000 in
theorem CompareS_any (a b : ByteArray) (w : World) : Calls Tryz.prog 68 #[.string a, .string b] w fun e w' => e = .returned (.int .i64 (cmpT a b)) ∧ w' = w := by
  have hl : Op.bytesLess a.toList b.toList = decide (cmpT a b < 0) := bytesLess_eq _ _
  have hg := gtr_cmpT a b
  have hv : cmpT a b = -1 ∨ cmpT a b = 0 ∨ cmpT a b = 1 := cmpB_val _ _
  have n1 := nan_any a
  have n2 := nan_any b
  generalize cmpT a b = c at *
  rcases hv with rfl | rfl | rfl
  · rw [decide_eq_true (by decide)] at hl
    clear hg
    go_enter Tryz.func68, Tryz.ntmps68
    go_wp2_with (go_at_call 94; first | (refine (n1 _).mono ?_; rintro e w' ⟨rfl, rfl⟩) | (refine (n2 _).mono ?_; rintro e w' ⟨rfl, rfl⟩))
    go_ret
    exact ⟨rfl, rfl⟩
  · rw [decide_eq_false (by decide)] at hl
    rw [decide_eq_false (by decide)] at hg
    rw [hl, Bool.not_false, Bool.true_and] at hg
    go_enter Tryz.func68, Tryz.ntmps68
    go_wp2_with (go_at_call 94; first | (refine (n1 _).mono ?_; rintro e w' ⟨rfl, rfl⟩) | (refine (n2 _).mono ?_; rintro e w' ⟨rfl, rfl⟩))
    go_ret
    exact ⟨rfl, rfl⟩
  · rw [decide_eq_false (by decide)] at hl
    rw [decide_eq_true (by decide)] at hg
    rw [hl, Bool.not_false, Bool.true_and] at hg
    go_enter Tryz.func68, Tryz.ntmps68
    go_wp2_with (go_at_call 94; first | (refine (n1 _).mono ?_; rintro e w' ⟨rfl, rfl⟩) | (refine (n2 _).mono ?_; rintro e w' ⟨rfl, rfl⟩))
    go_ret
    exact ⟨rfl, rfl⟩

set_option maxRecDepth 100000 in
theorem order_any (a b : En) (w : World) : Calls Tryz.prog 45 #[.agg #[.string a.1, .int .i64 a.2], .agg #[.string b.1, .int .i64 b.2]] w fun e w' => e = .returned (.int .i64 (cmpE a b)) ∧ Gr w w' := by
  obtain ⟨ak, ai⟩ := a
  obtain ⟨bk, bi⟩ := b
  have h1 := fun W => CompareS_any ak bk W
  have h2 := fun W => cmpN_any ai bi W
  have e0 : cmpE (ak, ai) (bk, bi) = if cmpT ak bk = 0 then cmpI ai bi else cmpT ak bk := rfl
  rw [e0]
  obtain ⟨c, hc⟩ : ∃ c, cmpT ak bk = c := ⟨_, rfl⟩
  obtain ⟨d, hd⟩ : ∃ d, cmpI ai bi = d := ⟨_, rfl⟩
  rw [hc] at h1 ⊢
  rw [hd] at h2 ⊢
  obtain ⟨z, hz⟩ : ∃ z, (if c = 0 then d else c) = z := ⟨_, rfl⟩
  have hO : Hid (∀ (B : Nat) (W' : World), W'.heap[B]? = some (.cells #[.int .i64 c, .int .i64 d] 3 (0, 0)) → Calls Tryz.prog 67 #[.slice (some ⟨B, 0, none⟩) 2 2] W' fun e w' => e = .returned (.int .i64 z) ∧ w' = W') := fun B W' h => by rw [← hz]; exact Or_any _ c d _ _ h
  rw [hz]
  clear e0 hc hd hz
  go_enter Tryz.func45, Tryz.ntmps45
  go_wp2_with fail
  obtain ⟨W, hW⟩ : ∃ W, (w.alloc (.cells #[.string ak, .int .i64 ai] 58)).alloc (.cells #[.string bk, .int .i64 bi] 58) = W := ⟨_, rfl⟩
  have hG : Gr w W := by rw [← hW]; exact ((Gr.refl _).alloc _).alloc _
  have hs : W.heap.size = w.heap.size + 2 := by rw [← hW]; simp
  have r0 : W.heap[w.heap.size]? = some (.cells #[.string ak, .int .i64 ai] 58) := by rw [← hW, Below.heap_alloc _ _ _ (by simp)]; exact heap_alloc_new _ _
  have r1 : W.heap[w.heap.size + 1]? = some (.cells #[.string bk, .int .i64 bi] 58) := by
    rw [← hW]
    have := heap_alloc_new (w.alloc (.cells #[.string ak, .int .i64 ai] 58)) (.cells #[.string bk, .int .i64 bi] 58)
    simpa using this
  rw [hW]
  have P0 := fun (w' : World) (h : Below W.heap.size W w' ∧ Gr w w') => (h.1.cell (p := ⟨w.heap.size, 0, none⟩) (by rw [hs]; simp)).trans (show W.cell? ⟨w.heap.size, 0, none⟩ = some (.string ak) by simp [World.cell?, r0])
  have P1 := fun (w' : World) (h : Below W.heap.size W w' ∧ Gr w w') => (h.1.cell (p := ⟨w.heap.size, 1, none⟩) (by rw [hs]; simp)).trans (show W.cell? ⟨w.heap.size, 1, none⟩ = some (.int .i64 ai) by simp [World.cell?, r0])
  have P2 := fun (w' : World) (h : Below W.heap.size W w' ∧ Gr w w') => (h.1.cell (p := ⟨w.heap.size + 1, 0, none⟩) (by rw [hs]; simp)).trans (show W.cell? ⟨w.heap.size + 1, 0, none⟩ = some (.string bk) by simp [World.cell?, r1])
  have P3 := fun (w' : World) (h : Below W.heap.size W w' ∧ Gr w w') => (h.1.cell (p := ⟨w.heap.size + 1, 1, none⟩) (by rw [hs]; simp)).trans (show W.cell? ⟨w.heap.size + 1, 1, none⟩ = some (.int .i64 bi) by simp [World.cell?, r1])
  have HB := (show Hid _ from hG)
  clear hG hs hW r0 r1
  have h0 : (fun w' : World => Below W.heap.size W w' ∧ Gr w w') W.drew := ⟨(Below.refl _ _).drew, Gr.drew HB.out⟩
  refine wp_region_held (S := fun w' => Below W.heap.size W w' ∧ Gr w w') mixedE ?_
  refine wpAnyH_take (i := 0) (oi := ⟨_, _, _, _, _, _⟩) (v := ?v1) rfl (by kernel_rfl) (by kernel_rfl) (by kernel_rfl) (fun _ _ _ h => h) (Or.inl ⟨by rfl, ?hy1⟩) h0 ?rest1
  case hy1 => (intro w hSw; (try dsimp only at hSw); go_simp; try with_reducible rfl)
  simp only [Act.put, List.setIfInBounds_toArray, List.set_cons_zero, List.set_cons_succ]
  refine wpAnyH_take (i := 1) (oi := ⟨_, _, _, _, _, _⟩) (v := ?v2) rfl (by kernel_rfl) (by kernel_rfl) (by kernel_rfl) (fun _ _ _ h => h) (Or.inl ⟨by rfl, ?hy2⟩) h0 ?rest2
  case hy2 => (intro w hSw; (try dsimp only at hSw); go_simp; try with_reducible rfl)
  simp only [Act.put, List.setIfInBounds_toArray, List.set_cons_zero, List.set_cons_succ]
  refine wpAnyH_take (i := 2) (oi := ⟨_, _, _, _, _, _⟩) (v := ?v3) rfl (by kernel_rfl) (by kernel_rfl) (by kernel_rfl) (fun _ _ _ h => h) (Or.inl ⟨by rfl, ?hy3⟩) h0 ?rest3
  case hy3 => (intro w hSw; (try dsimp only at hSw); go_simp; try with_reducible rfl)
  simp only [Act.put, List.setIfInBounds_toArray, List.set_cons_zero, List.set_cons_succ]
  refine wpAnyH_take (i := 3) (oi := ⟨_, _, _, _, _, _⟩) (v := ?v4) rfl (by kernel_rfl) (by kernel_rfl) (by kernel_rfl) (fun _ _ _ h => h) (Or.inl ⟨by rfl, ?hy4⟩) h0 ?rest4
  case hy4 => (intro w hSw; (try dsimp only at hSw); go_simp; try with_reducible rfl)
  simp only [Act.put, List.setIfInBounds_toArray, List.set_cons_zero, List.set_cons_succ]
  refine wpAnyH_take (i := 5) (oi := ⟨_, _, _, _, _, _⟩) (v := ?v5) rfl (by kernel_rfl) (by kernel_rfl) (by kernel_rfl) (fun _ _ _ h => h) (Or.inl ⟨by rfl, ?hy5⟩) h0 ?rest5
  case hy5 => (intro w hSw; (try dsimp only at hSw); go_simp; try with_reducible rfl)
  simp only [Act.put, List.setIfInBounds_toArray, List.set_cons_zero, List.set_cons_succ]
  refine wpAnyH_take (i := 6) (oi := ⟨_, _, _, _, _, _⟩) (v := ?v6) rfl (by kernel_rfl) (by kernel_rfl) (by kernel_rfl) (fun _ _ _ h => h) (Or.inl ⟨by rfl, ?hy6⟩) h0 ?rest6
  case hy6 => (intro w hSw; (try dsimp only at hSw); go_simp; try with_reducible rfl)
  simp only [Act.put, List.setIfInBounds_toArray, List.set_cons_zero, List.set_cons_succ]
  refine wpAnyH_take (i := 7) (oi := ⟨_, _, _, _, _, _⟩) (v := ?v7) rfl (by kernel_rfl) (by kernel_rfl) (by kernel_rfl) (fun _ _ _ h => h) (Or.inl ⟨by rfl, ?hy7⟩) h0 ?rest7
  case hy7 => (intro w hSw; (try dsimp only at hSw); go_simp; try with_reducible rfl)
  simp only [Act.put, List.setIfInBounds_toArray, List.set_cons_zero, List.set_cons_succ]
  refine wpAnyH_take (i := 8) (oi := ⟨_, _, _, _, _, _⟩) (v := ?v8) rfl (by kernel_rfl) (by kernel_rfl) (by kernel_rfl) (fun _ _ _ h => h) (Or.inl ⟨by rfl, ?hy8⟩) h0 ?rest8
  case hy8 => (intro w hSw; (try dsimp only at hSw); go_simp; try with_reducible rfl)
  simp only [Act.put, List.setIfInBounds_toArray, List.set_cons_zero, List.set_cons_succ]
  refine wpAnyH_ready (rs := [4]) (by kernel_rfl) (by simp) ?_
  refine AllReadyH.cons (o := ⟨_, _, _, _, _, _⟩) rfl (fun K hK => ?_) AllReadyH.nil
  go_simp
  refine (h1 _).mono ?_
  rintro e w1 ⟨rfl, rfl⟩
  refine hK.out _ _ h0 (fun hHeld => ?_)
  clear hK K hHeld
  try simp only [Act.put, List.setIfInBounds_toArray, List.set_cons_zero, List.set_cons_succ]
  refine wpAnyH_ready (rs := [9]) (by kernel_rfl) (by simp) ?_
  refine AllReadyH.cons (o := ⟨_, _, _, _, _, _⟩) rfl (fun K hK => ?_) AllReadyH.nil
  go_simp
  refine (h2 _).mono ?_
  rintro e w1 ⟨rfl, rfl⟩
  refine hK.out _ _ h0 (fun hHeld => ?_)
  clear hK K hHeld
  try simp only [Act.put, List.setIfInBounds_toArray, List.set_cons_zero, List.set_cons_succ]
  refine wpAnyH_ready (rs := [10]) (by kernel_rfl) (by simp) ?_
  refine AllReadyH.cons (o := ⟨_, _, _, _, _, _⟩) rfl (fun K hK => ?_) AllReadyH.nil
  go_simp
  have h1 : Below W.heap.size W (W.alloc (.cells #[.int .i64 c, .int .i64 d] 3)).drew ∧ Gr w (W.alloc (.cells #[.int .i64 c, .int .i64 d] 3)).drew := ⟨((Below.refl _ _).alloc (Nat.le_refl _) _).drew, Gr.drew (Gr.alloc HB.out _)⟩
  refine hK.out _ _ h1 (fun hHeld => ?_)
  clear hK K hHeld
  try simp only [Act.put, List.setIfInBounds_toArray, List.set_cons_zero, List.set_cons_succ]
  refine wpAnyH_ready (rs := [11]) (by kernel_rfl) (by simp) ?_
  refine AllReadyH.cons (o := ⟨_, _, _, _, _, _⟩) rfl (fun K hK => ?_) AllReadyH.nil
  go_simp
  refine (hO.out _ (W.alloc (.cells #[.int .i64 c, .int .i64 d] 3)).drew (heap_alloc_new W _)).mono ?_
  rintro e w1 ⟨rfl, rfl⟩
  refine hK.out _ _ h1 (fun hHeld => ?_)
  clear hK K hHeld
  try simp only [Act.put, List.setIfInBounds_toArray, List.set_cons_zero, List.set_cons_succ]
  refine wpAnyH_ready (rs := [12]) (by kernel_rfl) (by simp) ?_
  refine AllReadyH.cons (o := ⟨_, _, _, _, _, _⟩) rfl (fun K hK => ?_) AllReadyH.nil
  go_simp
  refine hK.out _ _ h1 (fun hHeld => ?_)
  clear hK K hHeld
  try simp only [Act.put, List.setIfInBounds_toArray, List.set_cons_zero, List.set_cons_succ]
  refine wpAnyH_done (by kernel_rfl) ?_ _
  go_wp2
  go_ret
  exact ⟨rfl, h1.2⟩

/-- as the sort asks for it. -/
theorem order_lays (blk off size : Nat) (w : World) : CmpLays Tryz.prog 45 #[] encEn 2 cmpE blk off size w :=
  fun _ _ _ _ x y => order_any x y _
theorem lt_of_cmpE {a b : En} : ltOf cmpE a b = true ↔ cmpE a b < 0 := by unfold ltOf; simp
theorem lt_not_cmpE {a b : En} : ltOf cmpE a b = false ↔ ¬ cmpE a b < 0 := by unfold ltOf; simp
theorem swoE : SWO (ltOf cmpE) where
  irrefl x := lt_not_cmpE.2 ltE_irrefl
  trans x y z h1 h2 := lt_of_cmpE.2 (ltE_trans (lt_of_cmpE.1 h1) (lt_of_cmpE.1 h2))
  ntrans x y z h1 h2 := by
    rw [lt_not_cmpE] at *
    intro h3
    rcases ltE_total x y with h | h | h
    · exact h1 h
    · subst h; exact h2 h3
    · exact h2 (ltE_trans h h3)

theorem flat_enc (l : List En) : (flatK encEn 2 l.toArray).toList = encEns l := by
  apply List.ext_getElem?
  intro t
  by_cases ht : t < l.length * 2
  · have hd : t / 2 < l.length := by omega
    have h1 : (encEns l)[t / 2 * 2 + t % 2]? = some ((encEn l[t / 2])[t % 2]!) := by
      refine flat_at encEn_len l (t / 2) (t % 2) l[t / 2] _ (List.getElem?_eq_getElem hd) ?_
      have : t % 2 < (encEn l[t / 2]).length := by rw [encEn_len]; omega
      rw [List.getElem?_eq_getElem this, getElem!_pos (encEn l[t / 2]) (t % 2) this]
    rw [show t / 2 * 2 + t % 2 = t by omega] at h1
    rw [h1]
    have h2 : t < (flatK encEn 2 l.toArray).size := by simpa using ht
    rw [Array.getElem?_toList, Array.getElem?_eq_getElem h2]
    have h3 := get_flatK encEn 2 l.toArray t (by simpa using ht)
    rw [getElem!_pos _ t h2] at h3
    rw [h3, getElem!_pos l.toArray (t / 2) (by simpa using hd)]
    rfl
  · rw [List.getElem?_eq_none (by simp; omega), List.getElem?_eq_none (by rw [encEns_len]; omega)]
theorem enc_flat (l : List En) (t : Nat) (h : t < l.length * 2) : (encEns l)[t]? = some (flatK encEn 2 l.toArray)[t]! := by
  rw [← flat_enc, Array.getElem?_toList]
  have h2 : t < (flatK encEn 2 l.toArray).size := by simpa using h
  rw [Array.getElem?_eq_getElem h2, getElem!_pos _ t h2]

theorem holdsE {w : World} {B c : Nat} {t : TypeId} {cur : Array Value} {l : List En} (hb : w.heap[B]? = some (.cells cur t (0, 0))) (_hs : cur.size = c * 2) (_hc : l.length ≤ c) (ht : cur.toList.take (l.length * 2) = encEns l) : HoldsK encEn 2 w B 0 l.toArray := by
  intro j hj
  have hj' : j < l.length * 2 := by simpa using hj
  have h1 := enc_flat l j hj'
  rw [← ht, List.getElem?_take, if_pos hj', Array.getElem?_toList] at h1
  refine ⟨?_, ?_⟩
  · show w.cell? ⟨B, 0 + j, none⟩ = some (flatK encEn 2 l.toArray)[j]!
    rw [Nat.zero_add]
    simp [World.cell?, hb, h1]
  · simp [World.frozen?, hb]
theorem put_cellsE {cur : Array Value} {c : Nat} {l : List En} (hs : cur.size = c * 2) (hc : l.length ≤ c) : (putCells id 0 (flatK encEn 2 l.toArray) cur).toList.take (l.length * 2) = encEns l := by
  apply List.ext_getElem?
  intro t
  by_cases ht : t < l.length * 2
  · have h1 := enc_flat l t ht
    have htc : t < cur.size := by omega
    rw [List.getElem?_take, if_pos ht, h1, Array.getElem?_toList, putCells, Array.getElem?_mapIdx, Array.getElem?_eq_getElem htc, Option.map_some, if_pos ⟨Nat.zero_le _, by simpa using ht⟩]
    rfl
  · rw [List.getElem?_eq_none (by simp; omega), List.getElem?_eq_none (by rw [encEns_len]; omega)]
theorem pairwise_of_sorted {l : List En} (h : SortedIn (ltOf cmpE) 0 l.length l.toArray) : l.Pairwise fun a b => ¬ cmpE b a < 0 := by
  rw [List.pairwise_iff_getElem]
  intro i j hi hj hij
  have h1 := h i j (Nat.zero_le _) hij hj
  rw [getElem!_pos l.toArray i (by simpa using hi), getElem!_pos l.toArray j (by simpa using hj)] at h1
  exact lt_not_cmpE.1 h1

/-- the row is sorted where it lies. -/
theorem Sort_any (l : List En) (v : Value) (B : Nat) (w : World) (h : w.ownsRow B 58 2 v l.length (encEns l)) (hB : B ≤ w.heap.size) (hl : l.length ≤ 1000000) :
    Calls Tryz.prog 44 #[v, .func (.func 45) #[] #[]] w fun e w' => e = .returned (.tuple #[]) ∧ ∃ l' : List En, l'.Perm l ∧ (l'.Pairwise fun a b => ¬ cmpE b a < 0) ∧ w'.ownsRow B 58 2 v l'.length (encEns l') ∧ Below B w w' := by
  obtain ⟨h1, ⟨rfl, h2⟩ | ⟨g, c, cur, rfl, h2, h3, h4, h5, h6, h7⟩⟩ := id h
  · obtain rfl := List.length_eq_zero_iff.1 h2
    refine (AnyF.slices_SortFunc_none Tryz.sortEn none 0 _ w).mono ?_
    rintro e w' ⟨rfl, rfl⟩
    exact ⟨rfl, [], List.Perm.refl _, List.Pairwise.nil, h, Below.refl _ _⟩
  · have hH := holdsE h3 h6 h4 h7
    have hg := lt_of_heap h3
    have hsz : l.toArray.size = l.length := by simp
    have hcon := AnyQ.slices_SortFunc Tryz.sortEn 2 Tryz.isAgg58 Tryz.sizeOf58 encEn encEn_len encEn_one cmpE swoE 45 #[] g 0 c l.toArray w (enters_of Tryz.func45 (by kernel_rfl) rfl) (order_lays g 0 _ w) hH hg (by rw [hsz]; omega)
    rw [hsz] at hcon
    refine Calls.mono hcon ?_
    rintro e w' ⟨rfl, d', n, os, ⟨p1, -, p3⟩, hs, rfl⟩
    obtain ⟨l', rfl⟩ : ∃ l' : List En, d' = l'.toArray := ⟨d'.toList, by simp⟩
    have hl' : l'.length = l.length := by simpa using p1
    have hperm : l'.Perm l := by
      have e1 : (l'.toArray.extract 0 l.length).toList = l' := by rw [← hl']; simp
      have e2 : (l.toArray.extract 0 l.length).toList = l := by simp
      rwa [e1, e2] at p3
    have hblk : (sortWorldK encEn 2 w g 0 n l'.toArray os).heap[g]? = some (.cells (putCells id 0 (flatK encEn 2 l'.toArray) cur) 58 (0, 0)) := by
      show (Go.Sort.grow (putRowK encEn 2 (Sort.ahead w n) g 0 l'.toArray) os).heap[g]? = _
      have hz : g < (putRowK encEn 2 (Sort.ahead w n) g 0 l'.toArray).heap.size := by
        show g < (w.heap.modify _ _).size
        simpa using hg
      rw [heap_grow_old _ _ hz]
      show (w.heap.modify g _)[g]? = _
      rw [Array.getElem?_modify, if_pos rfl, h3]
      rfl
    refine ⟨rfl, l', hperm, pairwise_of_sorted (by rw [hl']; exact hs), ?_, ?_⟩
    · refine ⟨by rw [encEns_len], .inr ⟨g, c, _, by rw [hl'], h2, hblk, by omega, h5, ?_, ?_⟩⟩
      · simp [putCells, h6]
      · exact put_cellsE h6 (by omega)
    · refine ⟨rfl, rfl, rfl, ?_, fun k hk => ?_⟩
      · show w.heap.size ≤ ((w.heap.modify _ _) ++ os).size
        simp
      · show ((w.heap.modify g _) ++ os)[k]? = _
        rw [Array.getElem?_append, if_pos (by simp; omega), Array.getElem?_modify, if_neg (by omega)]
end Go.Proofs.YtfpkkobclkdniaaGreatDoor

namespace Go.Proofs.YtfpkkobclkdniaaGreatDoor
open Go.RowKit

theorem placeH1_any (i k : Int) (v : V) (l f : Value) (w : World) (hs : ∃ a1 n1 c1 a2 n2 c2, l = .slice a1 n1 c1 ∧ f = .slice a2 n2 c2) :
    Calls Tryz.prog 63 #[.agg #[.int .i64 i, .int .i64 v.kind, .int .i64 v.num, .string v.text, l, f], .int .i64 k] w fun e w' => e = .returned (.int .i64 (cmpI i k)) ∧ Below w.heap.size w w' := by
  obtain ⟨a1, n1, c1, a2, n2, c2, rfl, rfl⟩ := hs
  go_enter Tryz.func63, Tryz.ntmps63
  go_wp2_with fail
  refine (cmpN_any i k _).mono ?_
  rintro e w1 ⟨rfl, rfl⟩
  go_wp2_with fail
  go_ret
  exact ⟨rfl, (Below.refl _ _).alloc (Nat.le_refl _) _⟩
theorem entersPlaceH1 (args : Array Value) (w : World) : (callFunc 63 args).run Tryz.prog w = .ok (.enter 63 args) w := enters_of Tryz.func63 (by kernel_rfl) rfl args w

theorem row_doc_below {base : Nat} {w wr : World} {b c n : Nat} {ds : List Dl} (hB : Below w.heap.size w wr) (h : w.ownsRow base 94 6 (.slice (some ⟨b, 0, none⟩) n c) n (encDs ds)) : wr.ownsRow base 94 6 (.slice (some ⟨b, 0, none⟩) n c) n (encDs ds) := ownsRow_cells (below_cells hB) h

set_option maxRecDepth 100000 in
set_option maxHeartbeats 2000000 in
theorem SearchD_any (base : Nat) (xs : List Dl) (sa : Value) (k : Int) (w : World)
    (ha : w.ownsRow base 94 6 sa xs.length (encDs xs)) (la : ∀ e ∈ xs, Lies 4 w e.v e.l e.f) (na : xs.length ≤ 1000000) (r : Nat) (p : Bool) (hr : r ≤ xs.length)
    (h1 : ∀ j x, j < r → xs[j]? = some x → cmpI x.id k < 0) (h2 : ∀ j x, r ≤ j → xs[j]? = some x → 0 ≤ cmpI x.id k) (hp : ∀ x, xs[r]? = some x → (cmpI x.id k == 0) = p) (hp0 : r = xs.length → p = false) :
    Calls Tryz.prog 62 #[sa, .int .i64 k, .func (.func 63) #[] #[]] w fun e w' => e = .returned (.tuple #[.int .i64 (r : Int), .bool p]) ∧ Below w.heap.size w w' := by
  obtain ⟨aa, ca, rfl⟩ := slice_of_row ha
  have eF := entersPlaceH1
  have HH := (show Hid _ from And.intro h1 (And.intro h2 (And.intro hp hp0)))
  clear h1 h2 hp hp0
  go_enter Tryz.func62, Tryz.ntmps62
  go_wp2
  go_loopg [9, 10, 11] xs.length (fun gg i j _ wr => ∃ a b : Nat, a ≤ r ∧ r ≤ b ∧ b ≤ xs.length ∧ b - a ≤ gg ∧ i = .int .i64 a ∧ j = .int .i64 b ∧ Aside (Below w.heap.size w wr))
  case atStart => exact ⟨0, xs.length, Nat.zero_le _, hr, Nat.le_refl _, by omega, rfl, rfl, Below.refl _ w⟩
  case round =>
    obtain ⟨a, b, hra, hrb, hbl, hgg, rfl, rfl, BW⟩ := hrel
    by_cases hlt : a < b
    · have zk : (a : Int) < (b : Int) := by omega
      obtain ⟨m, hm⟩ : ∃ m : Nat, ((a : Int) + (b : Int)) / 2 = (m : Int) := ⟨(a + b) / 2, by omega⟩
      have hma : a ≤ m := by omega
      have hmb : m < b := by omega
      obtain ⟨b0, c', cur, e1, hb0, _, hc1, hc2, _⟩ := cells_of_row ha (by omega)
      simp only [Value.slice.injEq, true_and] at e1
      obtain ⟨rfl, rfl⟩ := e1
      obtain ⟨⟨xn, xv, xl, xf⟩, hx⟩ : ∃ x, xs[m]? = some x := ⟨_, List.getElem?_eq_getElem (by omega)⟩
      obtain ⟨a0, a1, a2, a3, a4, a5⟩ := row_doc (row_doc_below BW.out ha) hx
      have hlx : Lies 4 wr xv xl xf := (la _ (List.mem_of_getElem? hx)).below BW.out
      simp only at a0 a1 a2 a3 a4 a5
      obtain ⟨al, cl, af, cf, rfl, rfl⟩ := hlx.slices
      have hcall := placeH1_any xn k xv (.slice al xv.list.length cl) (.slice af xv.fields.length cf) wr ⟨_, _, _, _, _, _, rfl, rfl⟩
      have zm : (m : Int) < (xs.length : Int) := by omega
      have HX := (show Hid _ from hx)
      obtain ⟨c, hc⟩ : ∃ c, cmpI xn k = c := ⟨_, rfl⟩
      have HC := (show Hid _ from hc)
      rw [hc] at hcall
      clear hx hlx la ha hc
      by_cases hc0 : c < 0
      · have hnr : m + 1 ≤ r := by
          rcases Nat.lt_or_ge m r with h | h
          · omega
          · have h' := HH.out.2.1 m _ h HX.out
            simp only at h'
            rw [HC.out] at h'
            omega
        go_wp2_with fail
        refine hcall.mono ?_
        rintro e w' ⟨rfl, hb'⟩
        go_wp2
        go_roundg (b - (m + 1))
        case measure => omega
        case rel => exact ⟨m + 1, b, by omega, by omega, by omega, by omega, by go_num, rfl, BW.out.trans (hb'.mono BW.out.size)⟩
      · have hnr : r ≤ m := by
          rcases Nat.lt_or_ge m r with h | h
          · exact absurd (by rw [← HC.out]; exact HH.out.1 m _ h HX.out) hc0
          · omega
        go_wp2_with fail
        refine hcall.mono ?_
        rintro e w' ⟨rfl, hb'⟩
        go_wp2
        go_roundg (m - a)
        case measure => omega
        case rel => exact ⟨a, m, by omega, by omega, by omega, by omega, rfl, rfl, BW.out.trans (hb'.mono BW.out.size)⟩
    · obtain rfl : r = a := by omega
      obtain rfl : b = r := by omega
      have zk : ¬ (b : Int) < (b : Int) := by omega
      by_cases hz : b < xs.length
      · obtain ⟨b0, c', cur, e1, hb0, _, hc1, hc2, _⟩ := cells_of_row ha (by omega)
        simp only [Value.slice.injEq, true_and] at e1
        obtain ⟨rfl, rfl⟩ := e1
        obtain ⟨⟨xn, xv, xl, xf⟩, hx⟩ : ∃ x, xs[b]? = some x := ⟨_, List.getElem?_eq_getElem (by omega)⟩
        obtain ⟨a0, a1, a2, a3, a4, a5⟩ := row_doc (row_doc_below BW.out ha) hx
        have hlx : Lies 4 wr xv xl xf := (la _ (List.mem_of_getElem? hx)).below BW.out
        simp only at a0 a1 a2 a3 a4 a5
        obtain ⟨al, cl, af, cf, rfl, rfl⟩ := hlx.slices
        have hcall := placeH1_any xn k xv (.slice al xv.list.length cl) (.slice af xv.fields.length cf) wr ⟨_, _, _, _, _, _, rfl, rfl⟩
        have hpx := HH.out.2.2.1 _ hx
        simp only at hpx
        obtain ⟨c, hc⟩ : ∃ c, cmpI xn k = c := ⟨_, rfl⟩
        rw [hc] at hcall hpx
        have zm : (b : Int) < (xs.length : Int) := by omega
        clear hx hlx la ha hc
        go_wp2_with fail
        refine hcall.mono ?_
        rintro e w' ⟨rfl, hb'⟩
        go_wp2
        go_ret2
        exact ⟨by rw [← hpx]; rfl, BW.out.trans (hb'.mono BW.out.size)⟩
      · have zm : ¬ (b : Int) < (xs.length : Int) := by omega
        have hpf := HH.out.2.2.2 (by omega)
        subst hpf
        clear la ha
        go_wp2_with fail
        go_ret2
        exact ⟨rfl, BW.out⟩

theorem cmpI_lt {a b : Int} : cmpI a b < 0 ↔ a < b := by unfold cmpI; repeat' split <;> omega
theorem cmpI_ge {a b : Int} : 0 ≤ cmpI a b ↔ b ≤ a := by unfold cmpI; repeat' split <;> omega
theorem cmpI_eq {a b : Int} : cmpI a b = 0 ↔ a = b := by unfold cmpI; repeat' split <;> omega
theorem recs_at {ds : List Dl} {rs : List Rec} (h : ds.map Dl.pairR = rs) {j : Nat} {x : Dl} (hx : ds[j]? = some x) : rs[j]? = some (x.id, x.v) := by
  rw [← h, List.getElem?_map, hx]; rfl

theorem placeH_any {base B : Nat} {rs : List Rec} {last lo : Int} (k : Int) (w : World) (h : HeapAt base w B rs last) (hr : RisesR lo rs) (hn : rs.length ≤ 1000000) :
    Calls Tryz.prog 41 #[.pointer (some ⟨B, 0, none⟩), .int .i64 k] w fun e w' => e = .returned (.tuple #[.int .i64 (aheadH k rs : Int), .bool (getR k rs).isSome]) ∧ Below w.heap.size w w' := by
  obtain ⟨h0, s, ds, h1, h2, h3, h4⟩ := h
  have hl : ds.length = rs.length := by rw [← h1, List.length_map]
  have hcall := SearchD_any base ds s k w h3 h4 (by omega) (aheadH k rs) (getR k rs).isSome (by rw [hl]; exact ahead_le k rs)
    (fun j x hj hx => cmpI_lt.2 (ahead_lt k rs j _ hj (recs_at h1 hx))) (fun j x hj hx => cmpI_ge.2 (ahead_ge k rs hr j _ hj (recs_at h1 hx)))
    (fun x hx => by
      have := ahead_is hr (recs_at h1 hx)
      cases hg : (getR k rs).isSome with
      | true => rw [hg] at this; have e := this.2 rfl; simp only at e; rw [cmpI_eq.2 e]; rfl
      | false => rw [hg] at this; exact beq_false_of_ne fun e => by have := this.1 (cmpI_eq.1 e); cases this)
    (fun e => by rw [ahead_end hr (by omega)]; rfl)
  have c0 : w.cell? ⟨B, 0, none⟩ = some s := by simp [World.cell?, h2]
  have c1 : w.cell? ⟨B, 1, none⟩ = some (.int .i64 last) := by simp [World.cell?, h2]
  clear h1 h2 h3 h4 hr hn hl
  go_enter Tryz.func41, Tryz.ntmps41
  go_wp2_with fail
  refine hcall.mono ?_
  rintro e w' ⟨rfl, hb⟩
  go_wp2_with fail
  go_ret2
  exact ⟨rfl, hb⟩
end Go.Proofs.YtfpkkobclkdniaaGreatDoor

namespace Go.Proofs.YtfpkkobclkdniaaGreatDoor
open Go.RowKit

/-- an empty heap is laid. -/
theorem New_any (w : World) : Calls Tryz.prog 19 #[] w fun e w' => e = .returned (.pointer (some ⟨w.heap.size, 0, none⟩)) ∧ HeapAt w.heap.size w' w.heap.size [] 0 ∧ Below w.heap.size w w' := by
  go_enter Tryz.func19, Tryz.ntmps19
  go_wp2
  go_ret
  exact ⟨rfl, ⟨Nat.le_refl _, .slice none 0 0, [], rfl, heap_alloc_new _ _, World.ownsRow_nil _ _ _ _, fun d hd => by cases hd⟩, (Below.refl _ _).alloc (Nat.le_refl _) _⟩

section
variable {base B : Nat} {rs : List Rec} {last lo : Int}
theorem HeapAt.head {w : World} (h : HeapAt base w B rs last) : ∃ a c, w.cell? ⟨B, 0, none⟩ = some (.slice a rs.length c) ∧ w.cell? ⟨B, 1, none⟩ = some (.int .i64 last) := by
  obtain ⟨h0, s, ds, h1, h2, h3, h4⟩ := h
  obtain ⟨a, c, rfl⟩ := slice_of_row h3
  have hl : ds.length = rs.length := by rw [← h1, List.length_map]
  exact ⟨a, c, by simp [World.cell?, h2, hl], by simp [World.cell?, h2]⟩
theorem Len_any (w : World) (h : HeapAt base w B rs last) : Calls Tryz.prog 25 #[.pointer (some ⟨B, 0, none⟩)] w fun e w' => e = .returned (.int .i64 rs.length) ∧ w' = w := by
  obtain ⟨a, c, c0, c1⟩ := h.head
  clear h
  go_enter Tryz.func25, Tryz.ntmps25
  go_wp2
  go_ret
  exact ⟨rfl, rfl⟩
/-- the record at a place, cell by cell. -/
theorem HeapAt.at {w : World} (h : HeapAt base w B rs last) {j : Nat} {x : Rec} (hx : rs[j]? = some x) (hn : rs.length ≤ 1000000) :
    ∃ D c al cl af cf, w.cell? ⟨B, 0, none⟩ = some (.slice (some ⟨D, 0, none⟩) rs.length c) ∧ D < w.heap.size ∧ base ≤ D ∧ rs.length ≤ c ∧ c ≤ 9223372036854775807 ∧
      w.cell? ⟨D, j * 6, none⟩ = some (.int .i64 x.1) ∧ w.cell? ⟨D, j * 6 + 1, none⟩ = some (.int .i64 x.2.kind) ∧ w.cell? ⟨D, j * 6 + 2, none⟩ = some (.int .i64 x.2.num) ∧ w.cell? ⟨D, j * 6 + 3, none⟩ = some (.string x.2.text) ∧
      w.cell? ⟨D, j * 6 + 4, none⟩ = some (.slice al x.2.list.length cl) ∧ w.cell? ⟨D, j * 6 + 5, none⟩ = some (.slice af x.2.fields.length cf) ∧ Lies 4 w x.2 (.slice al x.2.list.length cl) (.slice af x.2.fields.length cf) := by
  obtain ⟨h0, s, ds, h1, h2, h3, h4⟩ := h
  have hl : ds.length = rs.length := by rw [← h1, List.length_map]
  obtain ⟨d, hd, hdx⟩ : ∃ d, ds[j]? = some d ∧ Dl.pairR d = x := by
    rw [← h1, List.getElem?_map] at hx
    cases hd : ds[j]? with
    | none => rw [hd] at hx; cases hx
    | some d => rw [hd] at hx; exact ⟨d, rfl, by simpa using hx⟩
  subst hdx
  have hj := (List.getElem?_eq_some_iff.1 hd).1
  obtain ⟨D, c, cur, rfl, hb, hg, hc1, hc2, _⟩ := cells_of_row h3 (by omega)
  obtain ⟨a0, a1, a2, a3, a4, a5⟩ := row_doc h3 hd
  have hli := h4 d (List.mem_of_getElem? hd)
  obtain ⟨al, cl, af, cf, el, ef⟩ := hli.slices
  rw [el] at a4 hli
  rw [ef] at a5 hli
  exact ⟨D, c, al, cl, af, cf, by rw [← hl]; simp [World.cell?, h2], lt_of_heap hg, hb, by omega, hc2, a0, a1, a2, a3, a4, a5, hli⟩

def zeroH : V := ⟨0, 0, ⟨#[]⟩, [], []⟩
theorem lies_zero {n : Nat} {W : World} : Lies n W zeroH (.slice none 0 0) (.slice none 0 0) := (show Rep _ 0 W zeroH _ _ from ⟨rfl, rfl, rfl, rfl⟩ : Rep (fun _ => True) 0 W zeroH _ _).le (Nat.zero_le n)

set_option maxRecDepth 100000 in
set_option maxHeartbeats 2000000 in
theorem Get_none (k : Int) (w : World) (h : HeapAt base w B rs last) (hr : RisesR lo rs) (hn : rs.length ≤ 1000000) (hg : getR k rs = none) :
    Calls Tryz.prog 26 #[.pointer (some ⟨B, 0, none⟩), .int .i64 k] w fun e w' => e = .returned (.tuple #[.agg #[.int .i64 0, .int .i64 0, .string ⟨#[]⟩, .slice none 0 0, .slice none 0 0], .bool false]) ∧ Below w.heap.size w w' := by
  have hpl := fun W (hW : Below w.heap.size w W) => placeH_any k W (h.below hW) hr hn
  rw [hg] at hpl
  clear h hr hn
  go_enter Tryz.func26, Tryz.ntmps26
  go_wp2_with fail
  refine (hpl _ ((Below.refl _ _).alloc (Nat.le_refl _) _)).mono ?_
  rintro e w1 ⟨rfl, hb1⟩
  have r1 := row_below hb1 (heap_alloc_new w _)
  obtain ⟨x0, x1, x2, x3, x4, xf⟩ := row5 r1
  have hB : Below w.heap.size w w1 := ((Below.refl _ _).alloc (Nat.le_refl _) _).trans (hb1.mono (by simp))
  clear hpl hb1 r1
  go_wp2
  refine bodyPost_ret (v := .tuple #[.agg #[.int .i64 0, .int .i64 0, .string ⟨#[]⟩, .slice none 0 0, .slice none 0 0], .bool false]) (by simp [results, Tryz.results26, go_sem, x0, x1, x2, x3, x4]) rfl ⟨rfl, ?_⟩
  exact set5W_below hB (Nat.le_refl _) _ _ _ _ _ _ _ _ _ _

set_option maxRecDepth 100000 in
set_option maxHeartbeats 2000000 in
theorem Get_some (k : Int) (v : V) (w : World) (h : HeapAt base w B rs last) (hr : RisesR lo rs) (hn : rs.length ≤ 1000000) (hg : getR k rs = some v) :
    Calls Tryz.prog 26 #[.pointer (some ⟨B, 0, none⟩), .int .i64 k] w fun e w' => ∃ l f, e = .returned (.tuple #[.agg #[.int .i64 v.kind, .int .i64 v.num, .string v.text, l, f], .bool true]) ∧ Lies 5 w' v l f ∧ Below w.heap.size w w' := by
  have hpl := fun W (hW : Below w.heap.size w W) => placeH_any k W (h.below hW) hr hn
  rw [hg] at hpl
  have hx := (ahead_at k rs hr).1 v hg
  have hj := (List.getElem?_eq_some_iff.1 hx).1
  obtain ⟨j, hjd⟩ : ∃ j, aheadH k rs = j := ⟨_, rfl⟩
  rw [hjd] at hpl hx hj
  have zj : (j : Int) < (rs.length : Int) := by omega
  clear hjd
  have HH : Hid (HeapAt base w B rs last) := h
  clear h hr hg
  go_enter Tryz.func26, Tryz.ntmps26
  go_wp2_with fail
  refine (hpl _ ((Below.refl _ _).alloc (Nat.le_refl _) _)).mono ?_
  rintro e w1 ⟨rfl, hb1⟩
  have hB : Below w.heap.size w w1 := ((Below.refl _ _).alloc (Nat.le_refl _) _).trans (hb1.mono (by simp))
  have r1 := row_below hb1 (heap_alloc_new w _)
  have hh1 : HeapAt base w1 B rs last := HeapAt.below HH.out hB
  obtain ⟨D, c, al, cl, af, cf, c0, hD, hbD, hc1, hc2, a0, a1, a2, a3, a4, a5, hli⟩ := hh1.at hx hn
  have zc : (rs.length : Int) ≤ (c : Int) := by omega
  have htw := twinValue_any 4 v _ _ w1 hli
  have H1 := (show Hid _ from And.intro hB r1)
  clear hpl hb1 r1 hli hx a0 hB hh1
  simp only at a1 a2 a3 a4 a5
  go_wp2_with fail
  refine htw.mono ?_
  rintro e w2 ⟨l', f', rfl, hcp, hb2⟩
  have hrep := hcp.rep
  obtain ⟨al', cl', af', cf', rfl, rfl⟩ := hrep.slices
  obtain ⟨hB, r1⟩ := H1.out
  have r2 := row_below hb2 r1
  obtain ⟨x0, x1, x2, x3, x4, xf⟩ := row5 r2
  have hB2 : Below w.heap.size w w2 := hB.trans (hb2.mono hB.size)
  have hlt : w.heap.size < w1.heap.size := lt_of_heap r1
  have H2 := (show Hid _ from And.intro hrep (And.intro hB2 hlt))
  clear hcp hrep hb2 r2 r1 hB hB2 htw a1 a2 a3 a4 a5 c0
  go_wp2
  refine bodyPost_ret (v := .tuple #[.agg #[.int .i64 v.kind, .int .i64 v.num, .string v.text, .slice al' v.list.length cl', .slice af' v.fields.length cf'], .bool true]) (by simp [results, Tryz.results26, go_sem, x0, x1, x2, x3, x4]) rfl ⟨_, _, rfl, ?_, ?_⟩
  · exact H2.out.1.move fun b hb _ => ⟨trivial, set5W_ne _ _ _ _ _ _ _ _ _ _ _ _ (by have := H2.out.2.2; omega)⟩
  · exact set5W_below H2.out.2.1 (Nat.le_refl _) _ _ _ _ _ _ _ _ _ _
end
end Go.Proofs.YtfpkkobclkdniaaGreatDoor
