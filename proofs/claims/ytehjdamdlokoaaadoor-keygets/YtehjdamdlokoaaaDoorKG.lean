/-
  package key's Get. Conditions: as stated.
-/
import Derived.Test.YtehjdamdlokoaaaDoorKV
import Derived.Test.YtehjdamdlokoaaaDoorJValid
namespace Go.Proofs.YtehjdamdlokoaaaDoor
open Go.RowKit

/-- what Get answers. -/
def GetA (w : World) (res : Option V) (e : Ending) (w' : World) : Prop :=
  Below w.heap.size w w' ∧ match res with
  | none => e = .returned (.tuple #[.agg #[.int .i64 0, .int .i64 0, .string ⟨#[]⟩, .slice none 0 0, .slice none 0 0], .bool false])
  | some x => ∃ l f, e = .returned (.tuple #[.agg #[.int .i64 x.kind, .int .i64 x.num, .string x.text, l, f], .bool true]) ∧ Rep (fun c => w.heap.size ≤ c) 16 w' x l f
theorem belowAl {N : Nat} {w w1 : World} {o : Obj} (h : Below N w w1) (hN : N ≤ w1.heap.size) : Below N w (w1.alloc o) := h.alloc hN _
theorem belowSetc {N c o : Nat} {v : Value} {w w1 : World} (h : Below N w w1) (hc : N ≤ c) : Below N w (w1.setCell ⟨c, o, none⟩ v) :=
  ⟨h.os, h.tape, h.output, by simpa [World.setCell] using h.size, fun k hk => (Below.heap_setCell _ _ _ _ (by simp; omega)).trans (h.block k hk)⟩

set_option maxRecDepth 100000 in
set_option maxHeartbeats 4000000 in
theorem Get_none (s : ByteArray) (w : World) (hs : s.size ≤ 1000000) (h : ∀ v, valueK 16 s.data.toList ≠ some (v, [])) :
    Calls Tryd.prog 15 #[.string s] w (GetA w none) := by
  have R : RdK (w.alloc (.cells #[.int .i64 0, .int .i64 0, .string ⟨#[]⟩, .slice none 0 0, .slice none 0 0] 28)) (w.heap.size + 1) s.data.toList ((w.alloc (.cells #[.int .i64 0, .int .i64 0, .string ⟨#[]⟩, .slice none 0 0, .slice none 0 0] 28)).alloc (.cells #[.string s] 54)) := ⟨(Below.refl _ _).alloc (Nat.le_refl _) _, by simp, ⟨s, rfl, by have := heap_alloc_new (w.alloc (.cells #[.int .i64 0, .int .i64 0, .string ⟨#[]⟩, .slice none 0 0, .slice none 0 0] 28)) (.cells #[.string s] 54 (0, 0)); simpa using this⟩, by rw [← ba_size]; exact hs⟩
  have hc : Calls Tryd.prog 24 #[.pointer (some ⟨w.heap.size + 1, 0, none⟩), .int .i64 1] _ _ := value_any 16 (by decide) _ _ _ _ R
  obtain ⟨res, hres⟩ : ∃ t, valueK 16 s.data.toList = t := ⟨_, rfl⟩
  rw [hres] at hc h
  have r0 : ((w.alloc (.cells #[.int .i64 0, .int .i64 0, .string ⟨#[]⟩, .slice none 0 0, .slice none 0 0] 28)).alloc (.cells #[.string s] 54)).heap[w.heap.size]? = some (.cells #[.int .i64 0, .int .i64 0, .string ⟨#[]⟩, .slice none 0 0, .slice none 0 0] 28 (0, 0)) := heap_alloc2_old
  have HR := (show Hid _ from And.intro r0 h)
  clear R hs hres h r0
  go_enter Tryd.func15, Tryd.ntmps15
  go_wp2_with fail
  refine hc.mono ?_
  rintro e w1 ⟨K1, h1⟩
  clear hc
  have r1 := K1.mem HR.out.1 (by omega)
  obtain ⟨j0, j1, j2, j3, j4, jf⟩ := row5 r1
  have hlt2 := lt_of_heap r1
  have hB1 : Below w.heap.size w w1 := (belowAl (belowAl (Below.refl _ w) (Nat.le_refl _)) (by simp)).trans (K1.below (by omega) (by simp; omega))
  have HK := (show Hid _ from hB1)
  have hsz := K1.size
  rw [show ((w.alloc (.cells #[.int .i64 0, .int .i64 0, .string ⟨#[]⟩, .slice none 0 0, .slice none 0 0] 28)).alloc (.cells #[.string s] 54)).heap.size = w.heap.size + 2 by simp] at hsz
  clear r1 hB1 K1
  cases res with
  | none =>
    obtain ⟨kk, mm, tt, rfl⟩ := h1
    go_wp2_with fail
    refine bodyPost_ret (v := .tuple #[.agg #[.int .i64 0, .int .i64 0, .string ⟨#[]⟩, .slice none 0 0, .slice none 0 0], .bool false]) (by simp [results, Tryd.results15, go_sem, j0, j1, j2, j3, j4, hlt2]) rfl ?_
    have hk := HK.out
    have hz := hk.size
    refine ⟨?_, rfl⟩
    repeat (with_reducible first | exact hk | refine belowSetc ?_ (Nat.le_refl _) | refine belowAl ?_ (by simp [World.setCell]; omega))
  | some p =>
    obtain ⟨x, rest⟩ := p
    cases rest with
    | nil => exact absurd rfl (HR.out.2 x)
    | cons c rest =>
      obtain ⟨xl, xf, rfl, hrx, R3⟩ := h1
      simp only at hrx R3 ⊢
      obtain ⟨bl, dl, bf, df, rfl, rfl⟩ := hrx.slices
      obtain ⟨s', hpos, hx', c0, cf, hne, z2, hT⟩ := R3.cons
      have hlt3 := R3.lt
      clear hrx R3 hT hx' z2
      go_wp2_with fail
      refine bodyPost_ret (v := .tuple #[.agg #[.int .i64 0, .int .i64 0, .string ⟨#[]⟩, .slice none 0 0, .slice none 0 0], .bool false]) (by simp [results, Tryd.results15, go_sem, j0, j1, j2, j3, j4, hlt2]) rfl ?_
      have hk := HK.out
      have hz := hk.size
      refine ⟨?_, rfl⟩
      repeat (with_reducible first | exact hk | refine belowSetc ?_ (Nat.le_refl _) | refine belowAl ?_ (by simp [World.setCell]; omega))
set_option maxRecDepth 100000 in
set_option maxHeartbeats 4000000 in
theorem Get_some (s : ByteArray) (w : World) (hs : s.size ≤ 1000000) (x : V) (ans : Bool) (h : valueK 16 s.data.toList = some (x, [])) (hU : U8 w) (hva : ∀ (l f : Value) (W : World), Lies 16 W x l f → U8 W → Calls Tryd.prog 17 #[.agg #[.int .i64 x.kind, .int .i64 x.num, .string x.text, l, f]] W fun e w' => e = .returned (.bool ans) ∧ Below W.heap.size W w') :
    Calls Tryd.prog 15 #[.string s] w (GetA w (if ans then some x else none)) := by
  have R : RdK (w.alloc (.cells #[.int .i64 0, .int .i64 0, .string ⟨#[]⟩, .slice none 0 0, .slice none 0 0] 28)) (w.heap.size + 1) s.data.toList ((w.alloc (.cells #[.int .i64 0, .int .i64 0, .string ⟨#[]⟩, .slice none 0 0, .slice none 0 0] 28)).alloc (.cells #[.string s] 54)) := ⟨(Below.refl _ _).alloc (Nat.le_refl _) _, by simp, ⟨s, rfl, by have := heap_alloc_new (w.alloc (.cells #[.int .i64 0, .int .i64 0, .string ⟨#[]⟩, .slice none 0 0, .slice none 0 0] 28)) (.cells #[.string s] 54 (0, 0)); simpa using this⟩, by rw [← ba_size]; exact hs⟩
  have hc : Calls Tryd.prog 24 #[.pointer (some ⟨w.heap.size + 1, 0, none⟩), .int .i64 1] _ _ := value_any 16 (by decide) _ _ _ _ R
  rw [h] at hc
  have r0 : ((w.alloc (.cells #[.int .i64 0, .int .i64 0, .string ⟨#[]⟩, .slice none 0 0, .slice none 0 0] 28)).alloc (.cells #[.string s] 54)).heap[w.heap.size]? = some (.cells #[.int .i64 0, .int .i64 0, .string ⟨#[]⟩, .slice none 0 0, .slice none 0 0] 28 (0, 0)) := heap_alloc2_old
  obtain ⟨res, hres⟩ : ∃ t, (if ans then some x else none) = t := ⟨_, rfl⟩
  rw [hres]
  have HS := (show Hid _ from hres)
  have HR := (show Hid _ from And.intro r0 (And.intro hU hva))
  clear R hs h r0 hU hva hres
  go_enter Tryd.func15, Tryd.ntmps15
  go_wp2_with fail
  refine hc.mono ?_
  rintro e w1 ⟨K1, h1⟩
  clear hc
  have r1 := K1.mem HR.out.1 (by omega)
  obtain ⟨j0, j1, j2, j3, j4, jf⟩ := row5 r1
  have hlt2 := lt_of_heap r1
  have hB1 : Below w.heap.size w w1 := (belowAl (belowAl (Below.refl _ w) (Nat.le_refl _)) (by simp)).trans (K1.below (by omega) (by simp; omega))
  have hsz := K1.size
  rw [show ((w.alloc (.cells #[.int .i64 0, .int .i64 0, .string ⟨#[]⟩, .slice none 0 0, .slice none 0 0] 28)).alloc (.cells #[.string s] 54)).heap.size = w.heap.size + 2 by simp] at hsz
  obtain ⟨xl, xf, rfl, hrx, R3⟩ := h1
  simp only at hrx R3 ⊢
  obtain ⟨bl, dl, bf, df, rfl, rfl⟩ := hrx.slices
  obtain ⟨s', hs', hr'⟩ := R3.rd
  obtain rfl := ba_nil hs'
  have c0 : w1.cell? ⟨w.heap.size + 1, 0, none⟩ = some (.string ⟨#[]⟩) := cellK hr' rfl
  have hlt3 := R3.lt
  have hA : Below w1.heap.size w1 (w1.alloc (.cells #[.int .i64 x.kind, .int .i64 x.num, .string x.text, .slice bl x.list.length dl, .slice bf x.fields.length df] 28)) := (Below.refl _ _).alloc (Nat.le_refl _) _
  have hv := HR.out.2.2 _ _ (w1.alloc (.cells #[.int .i64 x.kind, .int .i64 x.num, .string x.text, .slice bl x.list.length dl, .slice bf x.fields.length df] 28)) (hrx.below hA).lies ((HR.out.2.1.later hB1).later hA)
  have hk0 := K1
  have HK := (show Hid _ from And.intro hB1 (And.intro hrx r1))
  clear r1 hB1 K1 hrx R3 hr' hs' hA HR hk0
  go_wp2_with fail
  refine hv.mono ?_
  rintro e w2 ⟨rfl, hB2⟩
  have hn0 := heap_alloc_new w1 (.cells #[.int .i64 x.kind, .int .i64 x.num, .string x.text, .slice bl x.list.length dl, .slice bf x.fields.length df] 28 (0, 0))
  have r2 : w2.heap[w.heap.size]? = some (.cells #[.int .i64 0, .int .i64 0, .string ⟨#[]⟩, .slice none 0 0, .slice none 0 0] 28 (0, 0)) := (hB2.block _ (by simp; omega)).trans ((Below.heap_alloc _ _ _ hlt2).trans HK.out.2.2)
  have o2 := (hB2.block _ (lt_of_heap hn0)).trans hn0
  obtain ⟨j0, j1, j2, j3, j4, jf⟩ := row5 r2
  obtain ⟨i0, i1, i2, i3, i4, hif⟩ := row5 o2
  have hlt4 := lt_of_heap r2
  have hlt5 := lt_of_heap o2
  have hne : w.heap.size ≠ w1.heap.size := by omega
  have hne2 : w1.heap.size ≠ w.heap.size := by omega
  have HB2 := (show Hid _ from hB2)
  clear hv hB2 hn0 r2 o2
  cases ans with
  | false =>
    go_wp2_with fail
    refine bodyPost_ret (v := .tuple #[.agg #[.int .i64 0, .int .i64 0, .string ⟨#[]⟩, .slice none 0 0, .slice none 0 0], .bool false]) (by simp [results, Tryd.results15, go_sem, j0, j1, j2, j3, j4]) rfl ?_
    have hk : Below w.heap.size w w2 := (belowAl HK.out.1 (by omega)).trans (HB2.out.mono (by simp; omega))
    rw [← HS.out]
    refine ⟨?_, rfl⟩
    repeat (with_reducible first | exact hk | refine belowSetc ?_ (Nat.le_refl _))
  | true =>
    go_wp2_with fail
    refine bodyPost_ret (v := .tuple #[.agg #[.int .i64 x.kind, .int .i64 x.num, .string x.text, .slice bl x.list.length dl, .slice bf x.fields.length df], .bool true]) (by simp [results, Tryd.results15, go_sem, j0, j1, j2, j3, j4]) rfl ?_
    have hk : Below w.heap.size w w2 := (belowAl HK.out.1 (by omega)).trans (HB2.out.mono (by simp; omega))
    have hq : Rep (fun c => w.heap.size + 2 ≤ c) 16 w2 x (.slice bl x.list.length dl) (.slice bf x.fields.length df) := (HK.out.2.1.al.below HB2.out).move fun c hc _ => ⟨by simpa using hc, rfl⟩
    have hno : ¬ (w.heap.size + 2 ≤ w.heap.size) := by omega
    rw [← HS.out]
    refine ⟨?_, _, _, rfl, ?_⟩
    · repeat (with_reducible first | exact hk | refine belowSetc ?_ (Nat.le_refl _))
    · refine Rep.move (ok := fun c => w.heap.size + 2 ≤ c) (fun c hc _ => ⟨by show w.heap.size ≤ c; omega, rfl⟩) ?_
      repeat (with_reducible first | exact hq | refine Rep.setc ?_ hno | refine Rep.al ?_)
end Go.Proofs.YtehjdamdlokoaaaDoor
