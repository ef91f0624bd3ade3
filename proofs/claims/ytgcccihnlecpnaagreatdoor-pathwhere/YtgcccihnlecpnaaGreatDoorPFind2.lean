/-
  package path's Find by its contract. Conditions: as stated (parts of at most 2^40 bytes).
-/
import Derived.Test.YtgcccihnlecpnaaGreatDoorPFind
namespace Go.Proofs.YtgcccihnlecpnaaGreatDoor
open Go.RowKit

theorem row5_at {m : Nat} {W : World} {B t : Nat} {v : V} {l f : Value} (h : W.heap[B]? = some (.cells #[.int .i64 v.kind, .int .i64 v.num, .string v.text, l, f] t (0, 0))) (hL : Lies m W v l f) : At m W B 0 v l f := by
  obtain ⟨a0, a1, a2, a3, a4, _⟩ := row5 h
  exact ⟨a0, a1, a2, a3, a4, hL⟩

set_option maxHeartbeats 1000000 in
theorem Find6_any (n : Nat) (ps : List ByteArray) (s : Value) (v : V) (l f : Value) (w : World) (hE : PEnv w) (hp : ∀ p ∈ ps, p.size ≤ 1099511627776) (hs : StrsAt w s ps) (h : Lies n w v l f) :
    Calls Tryz.prog 10 #[.agg #[.int .i64 v.kind, .int .i64 v.num, .string v.text, l, f], s] w fun r w' => ∃ l' f' m, r = .returned (.tuple #[.agg #[.int .i64 ((findP v ps).getD zeroV).kind, .int .i64 ((findP v ps).getD zeroV).num, .string ((findP v ps).getD zeroV).text, l', f'], .bool (findP v ps).isSome]) ∧ Lies m w' ((findP v ps).getD zeroV) l' f' ∧ Below w.heap.size w w' := by
  have hB : ∀ (o1 o2 : Obj), Below w.heap.size w ((w.alloc o1).alloc o2) := fun o1 o2 => ((Below.refl _ _).alloc (Nat.le_refl _) _).alloc (by simp) _
  obtain ⟨O1, hO1⟩ : ∃ O, O = Obj.cells #[.int .i64 v.kind, .int .i64 v.num, .string v.text, l, f] 28 := ⟨_, rfl⟩
  obtain ⟨O2, hO2⟩ : ∃ O, O = Obj.cells #[.int .i64 0, .int .i64 0, .string ⟨#[]⟩, .slice none 0 0, .slice none 0 0] 28 := ⟨_, rfl⟩
  have hBw := hB O1 O2
  have hat : At n ((w.alloc O1).alloc O2) w.heap.size 0 v l f := by
    refine row5_at (t := 28) ?_ (h.below hBw)
    rw [← hO1]; exact heap_alloc2_old
  have hcall := find6_any going_look ps s w.heap.size 0 v l f ((w.alloc O1).alloc O2) (hE.below hBw) hp (hs.below hBw) ⟨n, hat⟩
  have q0 : ((w.alloc O1).alloc O2).heap[w.heap.size + 1]? = some O2 := heap_alloc2_new
  obtain ⟨a1, c1, a3, c3, rfl, rfl⟩ := h.slices
  obtain ⟨a, cap, rfl, -⟩ := hs
  have S := (show Hid _ from And.intro hO1 (And.intro hO2 (And.intro hBw q0)))
  rw [hO1, hO2] at hcall
  clear hat hE hp h hO1 hO2 hBw q0
  rcases hF : findP v ps with _ | u
  · rw [hF] at hcall
    go_enter Tryz.func10, Tryz.ntmps10
    go_wp2_with fail
    refine hcall.mono ?_
    rintro e w1 ⟨hb1, he⟩
    obtain rfl := he
    obtain ⟨hO1, hO2, hBw, q0⟩ := S.out
    rw [← hO1, ← hO2] at hb1
    have q1 := (hb1.block _ (lt_of_heap q0)).trans q0
    rw [hO2] at q1
    obtain ⟨o0, o1, o2, o3, o4, of⟩ := row5 q1
    have hB1 := hBw.trans (hb1.mono hBw.size)
    clear q1 hb1 hcall hBw q0 hO1 hO2
    go_wp2
    refine bodyPost_ret (v := .tuple #[.agg #[.int .i64 0, .int .i64 0, .string ⟨#[]⟩, .slice none 0 0, .slice none 0 0], .bool false]) (by simp [results, Tryz.results10, go_sem, o0, o1, o2, o3, o4]) rfl ⟨_, _, 0, rfl, ⟨rfl, rfl, rfl, rfl⟩, ?_⟩
    exact (((((hB1.setCell (Nat.le_succ _) _).setCell (Nat.le_succ _) _).setCell (Nat.le_succ _) _).setCell (Nat.le_succ _) _).setCell (Nat.le_succ _) _)
  · rw [hF] at hcall
    show Calls _ _ _ _ fun r w' => ∃ l' f' m, r = .returned (.tuple #[.agg #[.int .i64 u.kind, .int .i64 u.num, .string u.text, l', f'], .bool true]) ∧ Lies m w' u l' f' ∧ _
    go_enter Tryz.func10, Tryz.ntmps10
    go_wp2_with fail
    refine hcall.mono ?_
    rintro e w1 ⟨hb1, B, O, ul, uf, rfl, m, hat⟩
    obtain ⟨hO1, hO2, hBw, q0⟩ := S.out
    rw [← hO1, ← hO2] at hb1
    have q1 := (hb1.block _ (lt_of_heap q0)).trans q0
    rw [hO2] at q1
    have hB1 := hBw.trans (hb1.mono hBw.size)
    obtain ⟨c0, c1, c2, c3, c4, hL⟩ := hat
    have htw := twinValue_any m u ul uf w1 hL
    obtain ⟨b1, d1, b3, d3, rfl, rfl⟩ := Rep.slices hL
    have T := (show Hid _ from And.intro hB1 q1)
    clear q1 hb1 hcall hBw q0 hO1 hO2 hB1
    go_wp2_with fail
    refine htw.mono ?_
    rintro e w2 ⟨l', f', rfl, hcp, hb2⟩
    have hrep := hcp.rep
    obtain ⟨al', cl', af', cf', rfl, rfl⟩ := hrep.slices
    obtain ⟨hB1, q1⟩ := T.out
    have q2 := row_below hb2 q1
    obtain ⟨o0, o1, o2, o3, o4, of⟩ := row5 q2
    have U := (show Hid _ from And.intro hrep hb2)
    clear hcp hrep hb2 q2 q1 hB1 hL htw c0 c1 c2 c3 c4
    go_wp2
    refine bodyPost_ret (v := .tuple #[.agg #[.int .i64 u.kind, .int .i64 u.num, .string u.text, .slice al' u.list.length cl', .slice af' u.fields.length cf'], .bool true]) (by simp [results, Tryz.results10, go_sem, o0, o1, o2, o3, o4]) rfl ⟨_, _, m + 1, rfl, ?_, ?_⟩
    · obtain ⟨hrep, hb2⟩ := U.out
      refine hrep.move fun b hb hl => ?_
      have hl1 := lt_of_heap T.out.2
      have h2 : b ≠ w.heap.size + 1 := by omega
      exact ⟨trivial, by rw [heap_setCell_ne _ _ _ h2, heap_setCell_ne _ _ _ h2, heap_setCell_ne _ _ _ h2, heap_setCell_ne _ _ _ h2, heap_setCell_ne _ _ _ h2]⟩
    · have hB2 := T.out.1.trans (U.out.2.mono T.out.1.size)
      exact (((((hB2.setCell (Nat.le_succ _) _).setCell (Nat.le_succ _) _).setCell (Nat.le_succ _) _).setCell (Nat.le_succ _) _).setCell (Nat.le_succ _) _)
end Go.Proofs.YtgcccihnlecpnaaGreatDoor
