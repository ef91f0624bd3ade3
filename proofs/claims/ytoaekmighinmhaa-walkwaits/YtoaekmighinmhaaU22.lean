/-
  sink by its contract; Add and Del of a tree. Conditions: as stated.
  Add and Del of a tree by their contracts. Conditions: as stated.
  Nodes of a tree by its contract; how many there are. Conditions: as stated.
  The law's shape by its contract: how many entries stand below a node that is told of, how deep, what comes behind. Conditions: as stated.
  The law's right by its contract: a tree's nodes are as they should. Conditions: as stated.
  The law's awake by its contract: the document's examples. No conditions.
  Deeds on trees as they lie in memory, and one deed's change of entries. No conditions beyond those stated.
  What the rows of this seat share: deeds and entries that come in. No conditions beyond those stated.
-/
import Derived.Test.YtoaekmighinmhaaU21
import Derived.OwnWalk
import Derived.Test.YtoaekmighinmhaaU6
import Derived.Test.YtoaekmighinmhaaRows
import Derived.WalkKit
import Derived.ProofKit
import Derived.OpenShut
import Derived.ShutString
import Derived.Carry
import Derived.LaidLaws
import Derived.Deep.DeepHandedRow
import Derived.Deep.Strs
import Derived.PinnedBridge
namespace Go.Proofs.Ytoaekmighinmhaa
open Go.RowKit

set_option maxRecDepth 100000 in
set_option maxHeartbeats 2000000 in
theorem sink_any (T n : Nat) (t : Nd) (c : Int) (W : World) (hT : W.heap[T]? = some (.cells #[.pointer (some ⟨t.b, 0, none⟩), .int .i64 c] 64 (0, 0))) (h : Own n W t) (hw : WfN n t) (hl4 : t.es.length ≤ 4) (hap : tc n T t = 0) :
    Calls Try.prog 28 #[.pointer (some ⟨T, 0, none⟩)] W fun e w' => e = .returned (.tuple #[]) ∧ RiseV W T n t c w' := by
  obtain ⟨sa, sc0, -, -, -, -, t0, -, -⟩ := h.1.sh.view
  have c0 : W.cell? ⟨T, 0, none⟩ = some (.pointer (some ⟨t.b, 0, none⟩)) := by simp [World.cell?, hT]
  have cf : ∀ j, W.frozen? ⟨T, j, none⟩ = false := fun j => by simp [World.frozen?, hT]
  have hTl := lt_of_heap hT
  have hfin : (n = 0 ∨ 1 ≤ t.es.length) → RiseV W T n t c W := fun hn => ⟨n, t, hT, h, ⟨hw, hl4, hn⟩, rfl, hap, fun _ _ => Nat.le_refl _, Chg.refl _ _⟩
  have hlf := leaf_any W h.1.sh
  by_cases h1 : 1 ≤ t.es.length
  · have hr := hfin (.inr h1)
    clear hfin
    have z0 : ¬ (t.es.length : Int) = 0 := by omega
    have z1 : ¬ t.es.length = 0 := by omega
    generalize t.es.length = m at *
    clear hT h hw hap hlf
    go_enter Try.func28, Try.ntmps28
    go_wp2
    exact bodyPost_end (v := .tuple #[]) (by simp [results, Try.results28, go_sem]) rfl ⟨rfl, hr⟩
  · have h0 : t.es.length = 0 := by omega
    rw [h0] at t0
    cases n with
    | zero =>
      have hr := hfin (.inl rfl)
      clear hfin
      rw [show t.kids.length = 0 by rw [h.1.2]; rfl] at hlf
      clear hT h hw hap h1 h0
      go_enter Try.func28, Try.ntmps28
      go_wp2_with fail
      refine hlf.mono ?_
      rintro e w2 ⟨rfl, rfl⟩
      go_wp2
      exact bodyPost_end (v := .tuple #[]) (by simp [results, Try.results28, go_sem]) rfl ⟨rfl, hr⟩
    | succ n =>
      have hkl : t.kids.length = 1 := by have := hw.1; omega
      obtain ⟨k, hk⟩ : ∃ k, t.kids[0]? = some k := ⟨_, List.getElem?_eq_getElem (by omega)⟩
      have hkk : t.kids = [k] := by
        match hq : t.kids, hkl, hk with
        | [x], _, hk => simp at hk; rw [hk]
      obtain ⟨B, d, -, hd1, hd2, c1, ck, -⟩ := h.1.1.kidv hk
      rw [hkl] at c1 hd1 hlf
      have hkw := hw.2 k (List.mem_of_getElem? hk)
      obtain ⟨W3, hW3⟩ : ∃ W3, W.setCell ⟨T, 0, none⟩ (.pointer (some ⟨k.b, 0, none⟩)) = W3 := ⟨_, rfl⟩
      have hset : ∀ a, a ≠ T → W3.heap[a]? = W.heap[a]? := fun a ha => by rw [← hW3]; exact Below.heap_setCell _ _ _ _ ha
      have htot : ∀ a, tc (n + 1) a t = sc a t + tc n a k := fun a => by
        show sc a t + (t.kids.map (tc n a)).sum = _
        rw [hkk]; simp
      have hOk := own_kid h hk
      have hr : RiseV W T (n + 1) t c W3 := by
        refine ⟨n, k, ?_, ⟨hOk.1.keep fun a ha => hset a (fun hc => ?_), hOk.2⟩, ⟨hkw.1, hkw.2.2, .inr (by omega)⟩, ?_, ?_, fun a ha => ?_, ⟨by rw [← hW3]; rfl, by rw [← hW3]; rfl, by rw [← hW3]; rfl, by rw [← hW3]; simp [World.setCell], fun a ha hf => hset a fun hc => by simp [hc] at hf⟩⟩
        · rw [← hW3, heap_setCell_at hT]; rfl
        · have := htot T
          rw [hc] at ha
          omega
        · show flatN n k = inter t.es (t.kids.map (flatN n))
          rw [hkk, List.length_eq_zero_iff.1 h0]
          exact (inter_one _).symm
        · have := htot T; omega
        · have := htot a; omega
      clear hT h hw hap h1 h0 hk hkk hkw hOk htot hset hfin hkl
      go_enter Try.func28, Try.ntmps28
      go_wp2_with fail
      refine hlf.mono ?_
      rintro e w2 ⟨rfl, rfl⟩
      go_wp2
      exact bodyPost_end (v := .tuple #[]) (by simp [results, Try.results28, go_sem]) rfl ⟨rfl, hr⟩
end Go.Proofs.Ytoaekmighinmhaa

namespace Go.Proofs.Ytoaekmighinmhaa
open Go.RowKit

section
variable {F : Nat → Prop} {T : Nat} {l : List En}
/-- a deed's end, put together. -/
theorem tr_end {n n1 n2 : Nat} {w W0 w3 W4 w5 : World} {t t1 : Nd} {c : Int} {l' : List En} (h : Tr w T n t) (hF : F T) (hFa : ∀ a, tc n a t ≠ 0 → F a) (hb0 : Below w.heap.size w W0) (hE : Evo n W0 t w3 t1) (hw4 : W4 = w3.setCell ⟨T, 1, none⟩ (.int .i64 c)) (hR : RiseV W4 T n t1 c w5) (hfl : flatN n t1 = l') (hc : c = l'.length) (hs : SortE l') (_hn : n1 = n2) :
    TrF (fun a => F a ∨ w.heap.size ≤ a) w5 T l' ∧ Far F w w5 := by
  obtain ⟨n', t', r1, r2, r3, r4, r5, r6, r7⟩ := hR
  have hTl := lt_of_heap h.cell
  have hs4 : W4.heap.size = w3.heap.size := by rw [hw4]; simp [World.setCell]
  have hset : ∀ a, a ≠ T → W4.heap[a]? = w3.heap[a]? := fun a ha => by rw [hw4]; exact Below.heap_setCell _ _ _ _ ha
  have hsz := hE.chg.size
  have hsz0 := hb0.size
  have hcnt : ∀ a, a < w.heap.size → tc n a t1 ≤ tc n a t := fun a ha => hE.cnt a (by omega)
  refine ⟨⟨n', t', ⟨by rw [r1, r4, hfl, hc], r2, r3, by rw [r4, hfl]; exact hs, r5⟩, r4.trans hfl, .inl hF, fun a ha => ?_⟩, ?_, ?_, ?_, ?_, fun a ha hf => ?_⟩
  · by_cases hlt : a < w.heap.size
    · left
      have h1 := r6 a (by omega)
      have h2 := hcnt a hlt
      exact hFa a (by omega)
    · right; omega
  · rw [r7.os, hw4]; exact hE.chg.os.trans hb0.os
  · rw [r7.tape, hw4]; exact hE.chg.tape.trans hb0.tape
  · rw [r7.output, hw4]; exact hE.chg.output.trans hb0.output
  · have := r7.size; omega
  · have hne : a ≠ T := fun hc => hf (by rw [hc]; exact hF)
    have h0 : tc n a t = 0 := Classical.byContradiction fun hc => hf (hFa a hc)
    have h1 : tc n a t1 = 0 := by have := hcnt a ha; omega
    rw [r7.block a (by omega) (by rw [if_neg hne, h1]), hset a hne, hE.chg.block a (by omega) h0, hb0.block a ha]
set_option maxRecDepth 100000 in
set_option maxHeartbeats 2000000 in
theorem AddT_any (e : En) (w : World) (h : TrF F w T l) (hn : l.length ≤ 1000000) : Calls Try.prog 15 #[.pointer (some ⟨T, 0, none⟩), .agg #[.string e.1, .int .i64 e.2]] w
    fun r w' => r = .returned (.bool (!hasE e l)) ∧ TrF (fun a => F a ∨ w.heap.size ≤ a) w' T (insE e l) ∧ Far F w w' := by
  obtain ⟨n, t, h1, hl, hF, hFa⟩ := h
  obtain ⟨ek, ei⟩ := e
  obtain ⟨W0, hW0, hwW, hs0, k0, k1⟩ := box_any w ek ei
  have h2 := h1.below hwW
  obtain ⟨c0, c1, cf, hTl⟩ := h2.view
  rw [hl] at c1
  have hO : Own n W0.drew t := h2.own.below (Below.refl _ _).drew
  have hcall := add_any n t (ek, ei) W0.drew hO h1.top.1 h1.top.2.1 h1.sort
  rw [hl] at hcall
  have P0 := fun (w' : World) (h : w'.heap[T]? = W0.heap[T]? ∧ w'.heap[w.heap.size]? = W0.heap[w.heap.size]?) => (World.cell?_of_block (a := ⟨T, 0, none⟩) h.1).trans c0
  have P1 := fun (w' : World) (h : w'.heap[T]? = W0.heap[T]? ∧ w'.heap[w.heap.size]? = W0.heap[w.heap.size]?) => (World.cell?_of_block (a := ⟨w.heap.size, 0, none⟩) h.2).trans k0
  have P2 := fun (w' : World) (h : w'.heap[T]? = W0.heap[T]? ∧ w'.heap[w.heap.size]? = W0.heap[w.heap.size]?) => (World.cell?_of_block (a := ⟨w.heap.size, 1, none⟩) h.2).trans k1
  have hTw := lt_of_heap h1.cell
  have hap0 : tc n w.heap.size t = 0 := Classical.byContradiction fun hc => by have := h1.own.1.lt hc; omega
  obtain ⟨p, hp⟩ : ∃ p, hasE (ek, ei) l = p := ⟨_, rfl⟩
  rw [hp] at hcall ⊢
  have HZ : Hid (wrap64 ((l.length : Int) + 1) = (l.length : Int) + 1) := by unfold Hid wrap64; omega
  obtain ⟨m, hm⟩ : ∃ m, l.length = m := ⟨_, rfl⟩
  rw [hm] at HZ c1
  have HH := (show Hid _ from And.intro h1 (And.intro hl (And.intro hF (And.intro hFa (And.intro hO (And.intro hp (And.intro hm h2)))))))
  clear h1 h2 hl hF hFa hO hp hm c0 k0 k1 hn
  have h0 : (fun w' : World => w'.heap[T]? = W0.heap[T]? ∧ w'.heap[w.heap.size]? = W0.heap[w.heap.size]?) W0.drew := ⟨rfl, rfl⟩
  go_enter Try.func15, Try.ntmps15
  go_wp2_with fail
  refine wp_region_held (S := fun w' => w'.heap[T]? = W0.heap[T]? ∧ w'.heap[w.heap.size]? = W0.heap[w.heap.size]?) mixed ?_
  refine wpAnyH_take (i := 0) (oi := ⟨_, _, _, _, _, _⟩) (v := ?v1) rfl (by kernel_rfl) (by kernel_rfl) (by kernel_rfl) (fun _ _ _ h => h) (Or.inl ⟨by rfl, ?hy1⟩) h0 ?rest1
  case hy1 => (intro w hSw; (try dsimp only at hSw); go_simp; try with_reducible rfl)
  simp only [Act.put, List.setIfInBounds_toArray, List.set_cons_zero, List.set_cons_succ]
  refine wpAnyH_take (i := 1) (oi := ⟨_, _, _, _, _, _⟩) (v := ?v2) rfl (by kernel_rfl) (by kernel_rfl) (by kernel_rfl) (fun _ _ _ h => h) (Or.inl ⟨by rfl, ?hy2⟩) h0 ?rest2
  case hy2 => (intro w hSw; (try dsimp only at hSw); go_simp; try with_reducible rfl)
  simp only [Act.put, List.setIfInBounds_toArray, List.set_cons_zero, List.set_cons_succ]
  refine wpAnyH_take (i := 2) (oi := ⟨_, _, _, _, _, _⟩) (v := ?v3) rfl (by kernel_rfl) (by kernel_rfl) (by kernel_rfl) (fun _ _ _ h => h) (Or.inl ⟨by rfl, ?hy3⟩) h0 ?rest3
  case hy3 => (intro w hSw; (try dsimp only at hSw); go_simp; try with_reducible rfl)
  simp only [Act.put, List.setIfInBounds_toArray, List.set_cons_zero, List.set_cons_succ]
  refine wpAnyH_take (i := 3) (oi := ⟨_, _, _, _, _, _⟩) (v := ?v4) rfl (by kernel_rfl) (by kernel_rfl) (by kernel_rfl) (fun _ _ _ h => h) (Or.inl ⟨by rfl, ?hy4⟩) h0 ?rest4
  case hy4 => (intro w hSw; (try dsimp only at hSw); go_simp; try with_reducible rfl)
  simp only [Act.put, List.setIfInBounds_toArray, List.set_cons_zero, List.set_cons_succ]
  refine wpAnyH_take (i := 4) (oi := ⟨_, _, _, _, _, _⟩) (v := ?v5) rfl (by kernel_rfl) (by kernel_rfl) (by kernel_rfl) (fun _ _ _ h => h) (Or.inl ⟨by rfl, ?hy5⟩) h0 ?rest5
  case hy5 => (intro w hSw; (try dsimp only at hSw); go_simp; try with_reducible rfl)
  simp only [Act.put, List.setIfInBounds_toArray, List.set_cons_zero, List.set_cons_succ]
  refine wpAnyH_ready (rs := [5]) (by kernel_rfl) (by simp) ?_
  refine AllReadyH.cons (o := ⟨_, _, _, _, _, _⟩) rfl (fun K hK => ?_) AllReadyH.nil
  go_simp
  refine hcall.mono ?_
  rintro e w3 ⟨rfl, hv⟩
  have h3 : w3.heap[T]? = W0.heap[T]? ∧ w3.heap[w.heap.size]? = W0.heap[w.heap.size]? := by
    obtain ⟨t1, hE, -⟩ := hv
    exact ⟨hE.chg.block T hTl HH.out.1.apart, hE.chg.block w.heap.size (show w.heap.size < W0.heap.size by omega) hap0⟩
  have G1 := (show Hid _ from hv)
  clear hv hcall
  refine hK.out _ _ h3 (fun hHeld => ?_)
  clear hK K hHeld
  try simp only [Act.put, List.setIfInBounds_toArray, List.set_cons_zero, List.set_cons_succ]
  refine wpAnyH_take (i := 6) (oi := ⟨_, _, _, _, _, _⟩) (v := ?v6) rfl (by kernel_rfl) (by kernel_rfl) (by kernel_rfl) (fun _ _ _ h => h) (Or.inl ⟨by rfl, ?hy6⟩) h3 ?rest6
  case hy6 => (intro w hSw; (try dsimp only at hSw); go_simp; try with_reducible rfl)
  simp only [Act.put, List.setIfInBounds_toArray, List.set_cons_zero, List.set_cons_succ]
  refine wpAnyH_done (by kernel_rfl) ?_ _
  have d1 := (World.cell?_of_block (a := ⟨T, 1, none⟩) h3.1).trans c1
  have df : ∀ j, w3.frozen? ⟨T, j, none⟩ = false := fun j => (World.frozen?_of_block (a := ⟨T, j, none⟩) h3.1).trans (cf j)
  have h3T := h3.1
  clear P0 P1 P2 h0 h3 c1 cf hW0
  obtain ⟨h1, hl, hF, hFa, hO, hp, hm, h2⟩ := HH.out
  obtain ⟨t1, hE, hw1, hfl, hs1, hs2, hs3⟩ := G1.out
  have hb0 : Below w.heap.size w W0.drew := hwW.drew
  cases p with
  | true =>
    have ht1 := hs3 (by rw [hl]; exact hp)
    have hfin : TrF (fun a => F a ∨ w.heap.size ≤ a) w3 T (insE (ek, ei) l) ∧ Far F w w3 := by
      rw [ht1] at hE
      refine ⟨⟨n, t, ⟨h3T.trans h2.cell, hE.own, h1.top, h1.sort, h1.apart⟩, ?_, .inl hF, fun a ha => .inl (hFa a ha)⟩, hE.chg.os.trans hb0.os, hE.chg.tape.trans hb0.tape, hE.chg.output.trans hb0.output, Nat.le_trans hb0.size hE.chg.size, fun a ha hf => ?_⟩
      · rw [ins_there (by rw [← hl]; exact h1.sort) (hasE_iff.1 hp)]; exact hl
      · have h0 : tc n a t = 0 := Classical.byContradiction fun hc => hf (hFa a hc)
        rw [hE.chg.block a (Nat.lt_of_lt_of_le ha hb0.size) h0, hb0.block a ha]
    clear h1 hl hF hFa hO hp hm h2 hE hw1 hfl hs1 hs2 hs3 ht1
    go_wp2
    go_ret
    exact ⟨rfl, hfin⟩
  | false =>
    have hTl3 : T < w3.heap.size := Nat.lt_of_lt_of_le hTl hE.chg.size
    have hapT : tc n T t1 = 0 := by have := hE.cnt T hTl; have := h1.apart; omega
    obtain ⟨W4, hW4⟩ : ∃ W4, w3.setCell ⟨T, 1, none⟩ (.int .i64 ((m : Int) + 1)) = W4 := ⟨_, rfl⟩
    have hset : ∀ a, a ≠ T → W4.heap[a]? = w3.heap[a]? := fun a ha => by rw [← hW4]; exact Below.heap_setCell _ _ _ _ ha
    have hT4 : W4.heap[T]? = some (.cells #[.pointer (some ⟨t.b, 0, none⟩), .int .i64 ((m : Int) + 1)] 64 (0, 0)) := by
      rw [← hW4, heap_setCell_at (h3T.trans h2.cell)]; rfl
    have hO4 : Own n W4 t1 := ⟨hE.own.1.keep fun a ha => hset a fun hc => ha (by rw [hc]; exact hapT), hE.own.2⟩
    have hl1 : n = 0 ∨ 1 ≤ t1.es.length := by
      rcases h1.top.2.2 with h5 | h5
      · exact .inl h5
      · exact .inr (by omega)
    have hrise := rise_any T n t1 ((m : Int) + 1) W4 (by rw [hE.b]; exact hT4) hO4 hw1 (by have := h1.top.2.1; omega) hl1 hapT
    have G2 := (show Hid _ from And.intro hE hfl)
    clear h1 hl hF hFa hO hp hm h2 hE hw1 hfl hs1 hs2 hs3 hset hT4 hO4 hl1 hapT h3T
    have zw := HZ.out
    go_wp2_with fail
    refine hrise.mono ?_
    rintro e w5 ⟨rfl, hr⟩
    have G3 := (show Hid _ from And.intro hr hW4)
    clear hr hrise zw hW4
    go_wp2
    go_ret
    obtain ⟨h1, hl, hF, hFa, hO, hp, hm, h2⟩ := HH.out
    obtain ⟨hE, hfl⟩ := G2.out
    obtain ⟨hr, hW4⟩ := G3.out
    have hsl : SortE l := by rw [← hl]; exact h1.sort
    exact ⟨rfl, tr_end h1 hF hFa hb0 hE hW4.symm hr hfl (by rw [hl, len_insE hsl (hasE_not.1 hp), hm]; rfl) (by rw [hl]; exact sort_ins hsl) (rfl : n = n) |>.imp (fun h => by rw [← hl]; exact h) id⟩
set_option maxRecDepth 100000 in
set_option maxHeartbeats 2000000 in
theorem DelT_any (e : En) (w : World) (h : TrF F w T l) (hn : l.length ≤ 1000000) : Calls Try.prog 16 #[.pointer (some ⟨T, 0, none⟩), .agg #[.string e.1, .int .i64 e.2]] w
    fun r w' => r = .returned (.bool (hasE e l)) ∧ TrF (fun a => F a ∨ w.heap.size ≤ a) w' T (delE e l) ∧ Far F w w' := by
  obtain ⟨n, t, h1, hl, hF, hFa⟩ := h
  obtain ⟨ek, ei⟩ := e
  obtain ⟨W0, hW0, hwW, hs0, k0, k1⟩ := box_any w ek ei
  have h2 := h1.below hwW
  obtain ⟨c0, c1, cf, hTl⟩ := h2.view
  rw [hl] at c1
  have hO : Own n W0.drew t := h2.own.below (Below.refl _ _).drew
  have hcall := del_any n t (ek, ei) W0.drew hO h1.top.1 h1.top.2.2 h1.top.2.1 h1.sort
  rw [hl] at hcall
  have P0 := fun (w' : World) (h : w'.heap[T]? = W0.heap[T]? ∧ w'.heap[w.heap.size]? = W0.heap[w.heap.size]?) => (World.cell?_of_block (a := ⟨T, 0, none⟩) h.1).trans c0
  have P1 := fun (w' : World) (h : w'.heap[T]? = W0.heap[T]? ∧ w'.heap[w.heap.size]? = W0.heap[w.heap.size]?) => (World.cell?_of_block (a := ⟨w.heap.size, 0, none⟩) h.2).trans k0
  have P2 := fun (w' : World) (h : w'.heap[T]? = W0.heap[T]? ∧ w'.heap[w.heap.size]? = W0.heap[w.heap.size]?) => (World.cell?_of_block (a := ⟨w.heap.size, 1, none⟩) h.2).trans k1
  have hTw := lt_of_heap h1.cell
  have hap0 : tc n w.heap.size t = 0 := Classical.byContradiction fun hc => by have := h1.own.1.lt hc; omega
  obtain ⟨p, hp⟩ : ∃ p, hasE (ek, ei) l = p := ⟨_, rfl⟩
  rw [hp] at hcall ⊢
  obtain ⟨m, hm⟩ : ∃ m, l.length = m := ⟨_, rfl⟩
  have HZ : Hid (wrap64 ((m : Int) - 1) = (m : Int) - 1) := by unfold Hid wrap64; omega
  rw [hm] at c1
  have HH := (show Hid _ from And.intro h1 (And.intro hl (And.intro hF (And.intro hFa (And.intro hO (And.intro hp (And.intro hm h2)))))))
  clear h1 h2 hl hF hFa hO hp hm c0 k0 k1 hn
  have h0 : (fun w' : World => w'.heap[T]? = W0.heap[T]? ∧ w'.heap[w.heap.size]? = W0.heap[w.heap.size]?) W0.drew := ⟨rfl, rfl⟩
  go_enter Try.func16, Try.ntmps16
  go_wp2_with fail
  refine wp_region_held (S := fun w' => w'.heap[T]? = W0.heap[T]? ∧ w'.heap[w.heap.size]? = W0.heap[w.heap.size]?) mixed ?_
  refine wpAnyH_take (i := 0) (oi := ⟨_, _, _, _, _, _⟩) (v := ?v7) rfl (by kernel_rfl) (by kernel_rfl) (by kernel_rfl) (fun _ _ _ h => h) (Or.inl ⟨by rfl, ?hy7⟩) h0 ?rest7
  case hy7 => (intro w hSw; (try dsimp only at hSw); go_simp; try with_reducible rfl)
  simp only [Act.put, List.setIfInBounds_toArray, List.set_cons_zero, List.set_cons_succ]
  refine wpAnyH_take (i := 1) (oi := ⟨_, _, _, _, _, _⟩) (v := ?v8) rfl (by kernel_rfl) (by kernel_rfl) (by kernel_rfl) (fun _ _ _ h => h) (Or.inl ⟨by rfl, ?hy8⟩) h0 ?rest8
  case hy8 => (intro w hSw; (try dsimp only at hSw); go_simp; try with_reducible rfl)
  simp only [Act.put, List.setIfInBounds_toArray, List.set_cons_zero, List.set_cons_succ]
  refine wpAnyH_take (i := 2) (oi := ⟨_, _, _, _, _, _⟩) (v := ?v9) rfl (by kernel_rfl) (by kernel_rfl) (by kernel_rfl) (fun _ _ _ h => h) (Or.inl ⟨by rfl, ?hy9⟩) h0 ?rest9
  case hy9 => (intro w hSw; (try dsimp only at hSw); go_simp; try with_reducible rfl)
  simp only [Act.put, List.setIfInBounds_toArray, List.set_cons_zero, List.set_cons_succ]
  refine wpAnyH_take (i := 3) (oi := ⟨_, _, _, _, _, _⟩) (v := ?v10) rfl (by kernel_rfl) (by kernel_rfl) (by kernel_rfl) (fun _ _ _ h => h) (Or.inl ⟨by rfl, ?hy10⟩) h0 ?rest10
  case hy10 => (intro w hSw; (try dsimp only at hSw); go_simp; try with_reducible rfl)
  simp only [Act.put, List.setIfInBounds_toArray, List.set_cons_zero, List.set_cons_succ]
  refine wpAnyH_take (i := 4) (oi := ⟨_, _, _, _, _, _⟩) (v := ?v11) rfl (by kernel_rfl) (by kernel_rfl) (by kernel_rfl) (fun _ _ _ h => h) (Or.inl ⟨by rfl, ?hy11⟩) h0 ?rest11
  case hy11 => (intro w hSw; (try dsimp only at hSw); go_simp; try with_reducible rfl)
  simp only [Act.put, List.setIfInBounds_toArray, List.set_cons_zero, List.set_cons_succ]
  refine wpAnyH_ready (rs := [5]) (by kernel_rfl) (by simp) ?_
  refine AllReadyH.cons (o := ⟨_, _, _, _, _, _⟩) rfl (fun K hK => ?_) AllReadyH.nil
  go_simp
  refine hcall.mono ?_
  rintro e w3 ⟨rfl, hv⟩
  have h3 : w3.heap[T]? = W0.heap[T]? ∧ w3.heap[w.heap.size]? = W0.heap[w.heap.size]? := by
    obtain ⟨t1, hE, -⟩ := hv
    exact ⟨hE.chg.block T hTl HH.out.1.apart, hE.chg.block w.heap.size (show w.heap.size < W0.heap.size by omega) hap0⟩
  have G1 := (show Hid _ from hv)
  clear hv hcall
  refine hK.out _ _ h3 (fun hHeld => ?_)
  clear hK K hHeld
  try simp only [Act.put, List.setIfInBounds_toArray, List.set_cons_zero, List.set_cons_succ]
  refine wpAnyH_take (i := 6) (oi := ⟨_, _, _, _, _, _⟩) (v := ?v12) rfl (by kernel_rfl) (by kernel_rfl) (by kernel_rfl) (fun _ _ _ h => h) (Or.inl ⟨by rfl, ?hy12⟩) h3 ?rest12
  case hy12 => (intro w hSw; (try dsimp only at hSw); go_simp; try with_reducible rfl)
  simp only [Act.put, List.setIfInBounds_toArray, List.set_cons_zero, List.set_cons_succ]
  refine wpAnyH_done (by kernel_rfl) ?_ _
  have d1 := (World.cell?_of_block (a := ⟨T, 1, none⟩) h3.1).trans c1
  have df : ∀ j, w3.frozen? ⟨T, j, none⟩ = false := fun j => (World.frozen?_of_block (a := ⟨T, j, none⟩) h3.1).trans (cf j)
  have h3T := h3.1
  clear P0 P1 P2 h0 h3 c1 cf hW0
  obtain ⟨h1, hl, hF, hFa, hO, hp, hm, h2⟩ := HH.out
  obtain ⟨t1, hE, hw1, hfl, hs1, hs2, hs3⟩ := G1.out
  have hb0 : Below w.heap.size w W0.drew := hwW.drew
  cases p with
  | false =>
    have ht1 := hs3 (by rw [hl]; exact hp)
    have hfin : TrF (fun a => F a ∨ w.heap.size ≤ a) w3 T (delE (ek, ei) l) ∧ Far F w w3 := by
      rw [ht1] at hE
      refine ⟨⟨n, t, ⟨h3T.trans h2.cell, hE.own, h1.top, h1.sort, h1.apart⟩, ?_, .inl hF, fun a ha => .inl (hFa a ha)⟩, hE.chg.os.trans hb0.os, hE.chg.tape.trans hb0.tape, hE.chg.output.trans hb0.output, Nat.le_trans hb0.size hE.chg.size, fun a ha hf => ?_⟩
      · rw [del_gone (by rw [← hl]; exact h1.sort) (hasE_not.1 hp)]; exact hl
      · have h0 : tc n a t = 0 := Classical.byContradiction fun hc => hf (hFa a hc)
        rw [hE.chg.block a (Nat.lt_of_lt_of_le ha hb0.size) h0, hb0.block a ha]
    clear h1 hl hF hFa hO hp hm h2 hE hw1 hfl hs1 hs2 hs3 ht1
    go_wp2
    go_ret
    exact ⟨rfl, hfin⟩
  | true =>
    have hTl3 : T < w3.heap.size := Nat.lt_of_lt_of_le hTl hE.chg.size
    have hapT : tc n T t1 = 0 := by have := hE.cnt T hTl; have := h1.apart; omega
    obtain ⟨W4, hW4⟩ : ∃ W4, w3.setCell ⟨T, 1, none⟩ (.int .i64 ((m : Int) - 1)) = W4 := ⟨_, rfl⟩
    have hset : ∀ a, a ≠ T → W4.heap[a]? = w3.heap[a]? := fun a ha => by rw [← hW4]; exact Below.heap_setCell _ _ _ _ ha
    have hT4 : W4.heap[T]? = some (.cells #[.pointer (some ⟨t.b, 0, none⟩), .int .i64 ((m : Int) - 1)] 64 (0, 0)) := by
      rw [← hW4, heap_setCell_at (h3T.trans h2.cell)]; rfl
    have hO4 : Own n W4 t1 := ⟨hE.own.1.keep fun a ha => hset a fun hc => ha (by rw [hc]; exact hapT), hE.own.2⟩
    have hsink := sink_any T n t1 ((m : Int) - 1) W4 (by rw [hE.b]; exact hT4) hO4 hw1 (by have := h1.top.2.1; omega) hapT
    have G2 := (show Hid _ from And.intro hE hfl)
    clear h1 hl hF hFa hO hp hm h2 hE hw1 hfl hs1 hs2 hs3 hset hT4 hO4 hapT h3T
    have zw := HZ.out
    go_wp2_with fail
    refine hsink.mono ?_
    rintro e w5 ⟨rfl, hr⟩
    have G3 := (show Hid _ from And.intro hr hW4)
    clear hr hsink zw hW4
    go_wp2
    go_ret
    obtain ⟨h1, hl, hF, hFa, hO, hp, hm, h2⟩ := HH.out
    obtain ⟨hE, hfl⟩ := G2.out
    obtain ⟨hr, hW4⟩ := G3.out
    have hsl : SortE l := by rw [← hl]; exact h1.sort
    have hlen := len_delE hsl (hasE_iff.1 hp)
    exact ⟨rfl, tr_end h1 hF hFa hb0 hE hW4.symm hr hfl (by rw [hl]; omega) (by rw [hl]; exact sort_del hsl) (rfl : n = n) |>.imp (fun h => by rw [← hl]; exact h) id⟩
end
end Go.Proofs.Ytoaekmighinmhaa

namespace Go.Proofs.Ytoaekmighinmhaa
open Go.RowKit

theorem sum_mono {f g : Nd → Nat} : ∀ {l : List Nd}, (∀ k ∈ l, f k ≤ g k) → (l.map f).sum ≤ (l.map g).sum
  | [], _ => Nat.le_refl _
  | k :: l, h => by
    have h1 := h k (by simp)
    have h2 := sum_mono (l := l) fun x hx => h x (List.mem_cons_of_mem _ hx)
    simp only [List.map_cons, List.sum_cons]
    omega
theorem nodes_le : ∀ (n d : Nat) (t : Nd), WfN n t → 1 ≤ t.es.length → (nodesN n d t).length ≤ (flatN n t).length
  | 0, _, t, _, h => by simpa [nodesN, flatN] using h
  | n + 1, d, t, hw, h => by
    rw [len_flat hw]
    have h1 := sum_mono (l := t.kids) (f := fun k => (nodesN n (d + 1) k).length) (g := fun k => (flatN n k).length) fun k hk => nodes_le n (d + 1) k (hw.2 k hk).1 (by have := (hw.2 k hk).2.1; omega)
    have h2 : (nodesN (n + 1) d t).length = (t.kids.map fun k => (nodesN n (d + 1) k).length).sum + 1 := by
      simp only [nodesN, List.length_cons, List.length_flatMap]
    omega
theorem height_le : ∀ (n d : Nat) (t : Nd), WfN n t → n + 1 ≤ (nodesN n d t).length
  | 0, _, t, _ => by simp [nodesN]
  | n + 1, d, t, hw => by
    have hne : t.kids ≠ [] := fun h => by have := hw.1; rw [h] at this; simp at this
    obtain ⟨k, hk⟩ := List.exists_mem_of_ne_nil _ hne
    have h1 := height_le n (d + 1) k (hw.2 k hk).1
    have h2 : (nodesN n (d + 1) k).length ≤ (t.kids.map fun k => (nodesN n (d + 1) k).length).sum := le_sum (fun k => (nodesN n (d + 1) k).length) hk
    simp only [nodesN, List.length_cons, List.length_flatMap]
    omega
theorem top_nodes {n : Nat} {t : Nd} (h : TopN n t) : (nodesN n 1 t).length ≤ (flatN n t).length + 1 := by
  rcases h.2.2 with rfl | h1
  · simp [nodesN]
  · have := nodes_le n 1 t h.1 h1
    omega
section
variable {F : Nat → Prop} {T : Nat} {l : List En}
end
end Go.Proofs.Ytoaekmighinmhaa

namespace Go.Proofs.Ytoaekmighinmhaa
open Go.RowKit

/-- these stand in a row from a place on. -/
def From (l : List Nt) (p : Nat) (m : List Nt) : Prop := ∃ r, l.drop p = m ++ r
theorem From.get {l m : List Nt} {p j : Nat} {x : Nt} (h : From l p m) (hx : m[j]? = some x) : l[p + j]? = some x := by
  obtain ⟨r, hr⟩ := h
  have : (l.drop p)[j]? = some x := by
    rw [hr, List.getElem?_append_left (List.getElem?_eq_some_iff.1 hx).1]; exact hx
  rwa [List.getElem?_drop] at this
theorem From.le {l m : List Nt} {p : Nat} (h : From l p m) (hm : m ≠ []) : p + m.length ≤ l.length := by
  obtain ⟨r, hr⟩ := h
  have h1 := congrArg List.length hr
  rw [List.length_drop, List.length_append] at h1
  have := List.length_pos_iff.2 hm
  omega
theorem From.mid {l a b c : List Nt} {p : Nat} (h : From l p (a ++ b ++ c)) : From l (p + a.length) b := by
  obtain ⟨r, hr⟩ := h
  refine ⟨c ++ r, ?_⟩
  have h1 : l.drop (p + a.length) = (l.drop p).drop a.length := by rw [List.drop_drop]
  rw [h1, hr]
  simp
theorem sum_take (f : Nd → Nat) {l : List Nd} {j : Nat} {x : Nd} (h : l[j]? = some x) : ((l.take (j + 1)).map f).sum = ((l.take j).map f).sum + f x := by
  rw [List.take_add_one, h]
  simp
theorem sum_take_le (f : Nd → Nat) (l : List Nd) (j : Nat) : ((l.take j).map f).sum ≤ (l.map f).sum := by
  conv => rhs; rw [← List.take_append_drop j l]
  rw [List.map_append, List.sum_append]
  omega
end Go.Proofs.Ytoaekmighinmhaa

namespace Go.Proofs.Ytoaekmighinmhaa
open Go.RowKit

section
variable {F : Nat → Prop} {T : Nat} {l : List En}
end
end Go.Proofs.Ytoaekmighinmhaa

namespace Go.Proofs.Ytoaekmighinmhaa
open Go.RowKit

/-- so many entries of one key. -/
def upto (K : ByteArray) (j : Nat) : List En := (List.range j).map fun (i : Nat) => (K, (i : Int) + 1)
theorem upto_len (K : ByteArray) (j : Nat) : (upto K j).length = j := by simp [upto]
theorem ins_snoc {e : En} : ∀ {l : List En}, (∀ x ∈ l, cmpE x e < 0) → insE e l = l ++ [e]
  | [], _ => rfl
  | x :: l, h => by
    have h1 := h x (by simp)
    rw [ins_cons, if_neg (ltE_ne h1), if_neg (ltE_asymm h1), ins_snoc fun y hy => h y (List.mem_cons_of_mem _ hy)]
    rfl
theorem upto_lt (K : ByteArray) (j : Nat) : ∀ x ∈ upto K j, cmpE x (K, (j : Int) + 1) < 0 := by
  intro x hx
  simp only [upto, List.mem_map, List.mem_range] at hx
  obtain ⟨i, hi, rfl⟩ := hx
  unfold cmpE cmpI
  simp only [good_cmpT.refl, if_true]
  rw [if_pos (by omega)]
  decide
theorem upto_ins (K : ByteArray) (j : Nat) : insE (K, (j : Int) + 1) (upto K j) = upto K (j + 1) := by
  rw [ins_snoc (upto_lt K j)]
  simp [upto, List.range_succ]
theorem upto_has (K : ByteArray) (j : Nat) : hasE (K, (j : Int) + 1) (upto K j) = false := by
  rw [← Bool.not_eq_true, hasE_iff]
  exact fun h => ltE_irrefl (upto_lt K j _ h)
theorem sum_ge {f : Nd → Nat} {c : Nat} : ∀ {l : List Nd}, (∀ k ∈ l, c ≤ f k) → c * l.length ≤ (l.map f).sum
  | [], _ => by simp
  | k :: l, h => by
    have h1 := h k (by simp)
    have h2 := sum_ge (l := l) fun x hx => h x (List.mem_cons_of_mem _ hx)
    simp only [List.map_cons, List.sum_cons, List.length_cons, Nat.mul_add]
    omega
theorem nodes_five {n : Nat} {t : Nd} (h : TopN n t) (hl : (flatN n t).length = 5) : nodesN n 1 t = [(1, 1, false), (2, 2, true), (2, 2, true)] := by
  obtain ⟨hw, h4, h1⟩ := h
  match n, hw, hl, h1 with
  | 0, _, hl, _ => have : t.es.length = 5 := hl; omega
  | 1, hw, hl, h1 =>
    rw [len_flat hw] at hl
    have hk := sum_ge (l := t.kids) (f := fun k => (flatN 0 k).length) (c := 2) fun k hk => (hw.2 k hk).2.1
    have h2 := hw.1
    have h3 : t.es.length = 1 := by omega
    rw [h3] at h2
    match hks : t.kids, h2 with
    | [a, b], _ =>
      have ha := (hw.2 a (by rw [hks]; simp)).2.1
      have hb := (hw.2 b (by rw [hks]; simp)).2.1
      rw [hks] at hl
      have hs : t.es.length + (a.es.length + b.es.length) = 5 := by simpa [flatN] using hl
      have ha2 : a.es.length = 2 := by omega
      have hb2 : b.es.length = 2 := by omega
      simp [nodesN, hks, h3, ha2, hb2]
  | n + 2, hw, hl, h1 =>
    rw [len_flat hw] at hl
    have hk := sum_ge (l := t.kids) (f := fun k => (flatN (n + 1) k).length) (c := 4) fun k hk => by
      have hkw := hw.2 k hk
      have h5 := nodes_le (n + 1) 1 k hkw.1 (by omega)
      have h6 := sum_ge (l := k.kids) (f := fun k => (nodesN n 2 k).length) (c := 1) fun x _ => nodes_pos n 2 x
      have h7 : (nodesN (n + 1) 1 k).length = (k.kids.map fun k => (nodesN n 2 k).length).sum + 1 := by simp only [nodesN, List.length_cons, List.length_flatMap]
      have h8 := hkw.1.1
      omega
    have h2 := hw.1
    have h3 : 1 ≤ t.es.length := by omega
    omega
end Go.Proofs.Ytoaekmighinmhaa

namespace Go.Proofs.Ytoaekmighinmhaa
open Go.RowKit

/-- a deed: its kind, its key, its number. -/
structure Ac where
  kind : Int
  key : Int
  id : Int
def Ac.ent (e : Ac) : En := entA e.key e.id
def Ac.ok (e : Ac) : Prop := 0 ≤ e.kind ∧ e.kind < 256 ∧ 0 ≤ e.key ∧ e.key < 256 ∧ 0 ≤ e.id ∧ e.id < 256
def ActsAt (W : World) (s : Value) (acts : List Ac) : Prop :=
  ∃ (a : Option Addr) (cap : Nat), s = .slice a acts.length cap ∧ acts.length ≤ cap ∧ cap ≤ 9223372036854775807 ∧ (∀ e ∈ acts, e.ok) ∧
    (acts ≠ [] → ∃ b o, a = some ⟨b, o, none⟩ ∧ ∀ (j : Nat) (e : Ac), acts[j]? = some e → W.cell? ⟨b, o + j * 3, none⟩ = some (.int .u8 e.kind) ∧ W.cell? ⟨b, o + j * 3 + 1, none⟩ = some (.int .u8 e.key) ∧ W.cell? ⟨b, o + j * 3 + 2, none⟩ = some (.int .u8 e.id))
theorem ActsAt.below {W W' : World} {s : Value} {acts : List Ac} (h : ActsAt W s acts) (hb : Below W.heap.size W W') : ActsAt W' s acts := by
  obtain ⟨a, cap, h1, h2, h3, h4, h5⟩ := h
  refine ⟨a, cap, h1, h2, h3, h4, fun hne => ?_⟩
  obtain ⟨b, o, h6, h7⟩ := h5 hne
  exact ⟨b, o, h6, fun j e hj => by
    obtain ⟨c1, c2, c3⟩ := h7 j e hj
    exact ⟨(hb.cell (lt_of_cell c1)).trans c1, (hb.cell (lt_of_cell c2)).trans c2, (hb.cell (lt_of_cell c3)).trans c3⟩⟩
theorem ActsAt.slice {W : World} {s : Value} {acts : List Ac} (h : ActsAt W s acts) : ∃ a cap, s = .slice a acts.length cap ∧ acts.length ≤ cap ∧ cap ≤ 9223372036854775807 := by
  obtain ⟨a, cap, h1, h2, h3, _⟩ := h
  exact ⟨a, cap, h1, h2, h3⟩
theorem ActsAt.take {W : World} {a : Option Addr} {n cap : Nat} {acts : List Ac} (h : ActsAt W (.slice a n cap) acts) (m : Nat) : ActsAt W (.slice a (min m acts.length) cap) (acts.take m) := by
  obtain ⟨a', cap', h1, h2, h3, h4, h5⟩ := h
  simp only [Value.slice.injEq] at h1
  refine ⟨a, cap, by rw [List.length_take], by rw [List.length_take]; omega, by omega, fun e he => h4 e (List.mem_of_mem_take he), fun hne => ?_⟩
  obtain ⟨b, o, h6, h7⟩ := h5 (fun e => hne (by rw [e]; simp))
  refine ⟨b, o, h1.1.trans h6, fun j e hj => h7 j e ?_⟩
  rw [List.getElem?_take] at hj
  split at hj
  · exact hj
  · cases hj
/-- the deed at a place. -/
theorem ActsAt.at {W : World} {a : Option Addr} {n cap : Nat} {acts : List Ac} (h : ActsAt W (.slice a n cap) acts) {j : Nat} {e : Ac} (hj : acts[j]? = some e) :
    ∃ b o, a = some ⟨b, o, none⟩ ∧ e.ok ∧ W.cell? ⟨b, o + j * 3, none⟩ = some (.int .u8 e.kind) ∧ W.cell? ⟨b, o + j * 3 + 1, none⟩ = some (.int .u8 e.key) ∧ W.cell? ⟨b, o + j * 3 + 2, none⟩ = some (.int .u8 e.id) := by
  obtain ⟨a', cap', h1, h2, h3, h4, h5⟩ := h
  have k1 := h4 e (List.mem_of_getElem? hj)
  obtain ⟨b, o, h6, h7⟩ := h5 (fun e => by rw [e] at hj; simp at hj)
  obtain ⟨c1, c2, c3⟩ := h7 j e hj
  simp only [Value.slice.injEq] at h1
  exact ⟨b, o, h1.1.trans h6, k1, c1, c2, c3⟩
/-- a deed in a block of its own. -/
theorem boxA_any (w : World) (k y i : Int) : ∃ W0, w.alloc (.cells #[.int .u8 k, .int .u8 y, .int .u8 i] 38) = W0 ∧ Below w.heap.size w W0 ∧ W0.heap.size = w.heap.size + 1 ∧ W0.cell? ⟨w.heap.size, 0, none⟩ = some (.int .u8 k) ∧ W0.cell? ⟨w.heap.size, 1, none⟩ = some (.int .u8 y) ∧ W0.cell? ⟨w.heap.size, 2, none⟩ = some (.int .u8 i) := by
  obtain ⟨W0, hW0⟩ : ∃ W0, w.alloc (.cells #[.int .u8 k, .int .u8 y, .int .u8 i] 38) = W0 := ⟨_, rfl⟩
  have r0 : W0.heap[w.heap.size]? = some (.cells #[.int .u8 k, .int .u8 y, .int .u8 i] 38 (0, 0)) := by rw [← hW0]; exact heap_alloc_new _ _
  refine ⟨W0, hW0, by rw [← hW0]; exact (Below.refl _ _).alloc (Nat.le_refl _) _, by rw [← hW0]; simp, ?_, ?_, ?_⟩
  · simp [World.cell?, r0]
  · simp [World.cell?, r0]
  · simp [World.cell?, r0]
theorem Ent_any (e : Ac) (h : e.ok) (w : World) : Calls Try.prog 14 #[.agg #[.int .u8 e.kind, .int .u8 e.key, .int .u8 e.id]] w fun r w' => r = .returned (.agg #[.string e.ent.1, .int .i64 e.ent.2]) ∧ Below w.heap.size w w' :=
  Entry_any e.kind e.key e.id ⟨h.2.2.1, h.2.2.2.1⟩ ⟨h.2.2.2.2.1, h.2.2.2.2.2⟩ w
/-- the entries behind a deed. -/
def stepA (l : List En) (e : Ac) : List En := withL e.ent (!decide (e.kind < 140)) l
theorem stepA_add {l : List En} {e : Ac} (h : e.kind < 140) : stepA l e = insE e.ent l := by unfold stepA insE; rw [decide_eq_true h]; rfl
theorem stepA_del {l : List En} {e : Ac} (h : ¬ e.kind < 140) : stepA l e = delE e.ent l := by unfold stepA delE; rw [decide_eq_false h]; rfl
theorem len_withT (e : En) : ∀ l : List En, (withL e true l).length ≤ l.length
  | [] => by simp [withL]
  | x :: l => by
    have h2 := len_withT e l
    rw [withL]
    split
    · rw [List.length_cons]; omega
    · rw [if_neg (fun h => by cases h.1)]
      simp only [List.length_cons]; omega
theorem len_with (e : En) : ∀ (p : Bool) (l : List En), (withL e p l).length ≤ l.length + 1
  | true, l => Nat.le_succ_of_le (len_withT e l)
  | false, [] => by simp [withL]
  | false, x :: l => by
    have h1 := len_with e false l
    have h2 := len_withT e l
    rw [withL]
    split
    · rw [List.length_cons]; omega
    · split
      · simp only [List.length_cons]; omega
      · simp only [List.length_cons]; omega
/-- a tree that is all new since. -/
abbrev Tree (w0 w : World) (T : Nat) (l : List En) : Prop := TrF (fun a => w0.heap.size ≤ a) w T l ∧ Below w0.heap.size w0 w
theorem Tree.same {w0 w w' : World} {T : Nat} {l : List En} (h : Tree w0 w T l) (hb : Below w.heap.size w w') : Tree w0 w' T l := ⟨h.1.below hb, h.2.trans (hb.mono h.2.size)⟩
theorem Tree.step {w0 w w' : World} {T : Nat} {l l' : List En} (h : Tree w0 w T l) (ht : TrF (fun a => w0.heap.size ≤ a ∨ w.heap.size ≤ a) w' T l') (hf : Far (fun a => w0.heap.size ≤ a) w w') : Tree w0 w' T l' :=
  ⟨ht.mono fun _a ha => ha.elim id (fun h2 => Nat.le_trans h.2.size h2), h.2.trans (hf.below h.2.size fun _a ha => ha)⟩
end Go.Proofs.Ytoaekmighinmhaa

namespace Go.Proofs.Ytoaekmighinmhaa
open Go.RowKit

theorem own : ownKnob Try.prog.godebug = none := by kernel_rfl
theorem laidOut : laidOutB Try.prog = true := by kernel_rfl
theorem cellsStr : Try.prog.cellsOf 9 = 1 := by kernel_rfl
theorem cellsU8 : Try.prog.cellsOf 5 = 1 := by kernel_rfl
theorem cellsI64 : Try.prog.cellsOf 2 = 1 := by kernel_rfl
theorem cellsAct : Try.prog.cellsOf 38 = 3 := by kernel_rfl
theorem cellsEn : Try.prog.cellsOf 34 = 2 := by kernel_rfl
theorem u8_range {z : Int} (hw : (Lit.int .u8 z).wf = true) : 0 ≤ z ∧ z < 256 := by
  have h1 : IntKind.u8.min = 0 := rfl
  have h2 : IntKind.u8.max = 255 := rfl
  simp only [Lit.wf, Bool.and_eq_true, decide_eq_true_eq] at hw
  omega

theorem u16_range {z : Int} (hw : (Lit.int .u16 z).wf = true) : 0 ≤ z ∧ z < 65536 := by
  have h1 : IntKind.u16.min = 0 := rfl
  have h2 : IntKind.u16.max = 65535 := rfl
  simp only [Lit.wf, Bool.and_eq_true, decide_eq_true_eq] at hw
  omega

open Go.ChangeShapes Go.WideShapes Go.ChangeAt in
/-- a deed by its cells. -/
theorem act_of_cells {H : Type} {enc : TypeId × Value → H} {W : World} {fuel : Nat} {cs : List Value} {x : DataW H × List MemPlace} (hlen : cs.length = 3) (h2 : DataW.trod enc Try.prog W 0 (fun _ => true) true fuel 38 cs = some x) : ∃ e : Ac, e.ok ∧ cs = [.int .u8 e.kind, .int .u8 e.key, .int .u8 e.id] := by
  obtain ⟨y0, y1, y2, n', _, _, g0, g1, g2⟩ := Go.Deep.trod_struct3 Try.underlying38 h2
  match cs, hlen with
  | [u0, u1, u2], _ =>
    simp [cellsU8] at g0 g1 g2
    obtain ⟨k, hk, _, wk⟩ := DataW.trod_int Try.underlying5 g0
    obtain ⟨q, hq, _, wq⟩ := DataW.trod_int Try.underlying5 g1
    obtain ⟨r, hr, _, wr⟩ := DataW.trod_int Try.underlying5 g2
    simp only [List.cons.injEq, and_true] at hk hq hr
    subst hk hq hr
    exact ⟨⟨k, q, r⟩, ⟨(u8_range wk).1, (u8_range wk).2, (u8_range wq).1, (u8_range wq).2, (u8_range wr).1, (u8_range wr).2⟩, rfl⟩
open Go.ChangeShapes Go.WideShapes Go.ChangeAt in
/-- an entry by its cells. -/
theorem entry_of_cells {H : Type} {enc : TypeId × Value → H} {W : World} {fuel : Nat} {cs : List Value} {x : DataW H × List MemPlace} (hlen : cs.length = 2) (h2 : DataW.trod enc Try.prog W 0 (fun _ => true) true fuel 34 cs = some x) : ∃ (k : ByteArray) (i : Int), cs = [.string k, .int .i64 i] := by
  obtain ⟨y0, y1, n', _, _, g0, g1⟩ := trod_struct2 Try.underlying34 h2
  match cs, hlen with
  | [u0, u1], _ =>
    simp [cellsStr, cellsI64] at g0 g1
    obtain ⟨k, hk, _, _⟩ := DataW.trod_string Try.underlying9 g0
    obtain ⟨q, hq, _, _⟩ := DataW.trod_int Try.underlying2 g1
    simp only [List.cons.injEq, and_true] at hk hq
    subst hk hq
    exact ⟨k, q, rfl⟩
open Go.ChangeShapes Go.WideShapes Go.ChangeAt in
/-- a deed that came in. -/
theorem open_act {H : Type} {enc : TypeId × Value → H} {W : World} {base : Nat} {v : Value} {d : DataW H} {p : List MemPlace} (hval : Value.okWide Try.prog W .any base 38 v) (h : DataW.Trod enc Try.prog W 0 (fun _ => true) true 38 v d p) : ∃ e : Ac, e.ok ∧ v = .agg #[.int .u8 e.kind, .int .u8 e.key, .int .u8 e.id] := by
  obtain ⟨cs, rfl, hsz⟩ := okWide_struct Try.underlying38 hval
  obtain ⟨fuel, hf⟩ := h
  obtain ⟨e, h1, h2⟩ := act_of_cells (cs := cs.toList) (by rw [Array.length_toList, hsz]; exact cellsAct) hf
  exact ⟨e, h1, by simpa using congrArg (fun l => Value.agg l.toArray) h2⟩
open Go.ChangeShapes Go.WideShapes Go.ChangeAt in
/-- an entry that came in. -/
theorem open_entry {H : Type} {enc : TypeId × Value → H} {W : World} {base : Nat} {v : Value} {d : DataW H} {p : List MemPlace} (hval : Value.okWide Try.prog W .any base 34 v) (h : DataW.Trod enc Try.prog W 0 (fun _ => true) true 34 v d p) : ∃ (k : ByteArray) (i : Int), v = .agg #[.string k, .int .i64 i] := by
  obtain ⟨cs, rfl, hsz⟩ := okWide_struct Try.underlying34 hval
  obtain ⟨fuel, hf⟩ := h
  obtain ⟨k, i, h2⟩ := entry_of_cells (cs := cs.toList) (by rw [Array.length_toList, hsz]; exact cellsEn) hf
  exact ⟨k, i, by simpa using congrArg (fun l => Value.agg l.toArray) h2⟩
open Go.ChangeShapes Go.WideShapes Go.ChangeAt in
/-- a slice of deeds that came in. -/
theorem open_acts {H : Type} {enc : TypeId × Value → H} {W : World} {base : Nat} {v : Value} {d : DataW H} {p : List MemPlace} (hval : Value.okWide Try.prog W .any base 22 v) (h : DataW.Trod enc Try.prog W 0 (fun _ => true) true 22 v d p) : ∃ acts, ActsAt W v acts := by
  obtain ⟨a1, len, cap, rfl⟩ := okWide_slice Try.underlying22 hval
  obtain ⟨fuel, hf⟩ := h
  rcases Go.Deep.open_slice Try.underlying22 hf with ⟨hcs, hx⟩ | ⟨a, len', cap', m, n, D, Pl, hcs, hb, hl, hm, hmm, hx, hel⟩
  · simp [Value.cells] at hcs
    obtain ⟨rfl, rfl, rfl⟩ := hcs
    exact ⟨[], none, 0, rfl, Nat.le_refl _, by omega, fun e he => (by cases he), fun h => absurd rfl h⟩
  · simp [Value.cells] at hcs
    obtain ⟨rfl, rfl, rfl⟩ := hcs
    simp only [if_true] at hmm
    subst hmm
    have each : ∀ i, i < m → ∃ e : Ac, e.ok ∧ W.cell? (a.add (i * 3)) = some (.int .u8 e.kind) ∧ W.cell? (a.add (i * 3 + 1)) = some (.int .u8 e.key) ∧ W.cell? (a.add (i * 3 + 2)) = some (.int .u8 e.id) := by
      intro i hi
      obtain ⟨cs', h1, h2⟩ := hel i hi
      rw [cellsAct] at h1
      obtain ⟨_, hlen, hcell⟩ := World.cells?_some h1
      obtain ⟨e, hok, rfl⟩ := act_of_cells hlen h2
      have e0 := hcell 0 (by omega)
      have e1 := hcell 1 (by omega)
      have e2 := hcell 2 (by omega)
      rw [Go.Deep.add_add] at e0 e1 e2
      exact ⟨e, hok, by simpa using e0, by simpa using e1, by simpa using e2⟩
    obtain ⟨f, hf2⟩ : ∃ f : Nat → Ac, ∀ i, i < m → (f i).ok ∧ W.cell? (a.add (i * 3)) = some (.int .u8 (f i).kind) ∧ W.cell? (a.add (i * 3 + 1)) = some (.int .u8 (f i).key) ∧ W.cell? (a.add (i * 3 + 2)) = some (.int .u8 (f i).id) := by
      refine ⟨fun i => if h : i < m then (each i h).choose else ⟨0, 0, 0⟩, fun i hi => ?_⟩
      simp only [dif_pos hi]
      exact (each i hi).choose_spec
    have hlen : ((List.range len).map f).length = len := by simp
    refine ⟨(List.range len).map f, some a, m, by rw [hlen], by rw [hlen]; exact hl, by unfold maxLen at hm; omega, fun e he => ?_, fun hne => ?_⟩
    · obtain ⟨i, hi, rfl⟩ := List.mem_map.1 he
      exact (hf2 i (by have := List.mem_range.1 hi; omega)).1
    · have h0 : 0 < len := by
        rcases Nat.eq_zero_or_pos len with h | h
        · exact absurd (by rw [h]; rfl) hne
        · exact h
      obtain ⟨ab, ao, spot⟩ := a
      have hspot : spot = none := by simpa [Addr.add] using World.cell?_spot (hf2 0 (by omega)).2.1
      subst hspot
      refine ⟨ab, ao, rfl, fun j e hj => ?_⟩
      have hjl : j < len := by rw [← hlen]; exact (List.getElem?_eq_some_iff.1 hj).1
      rw [List.getElem?_map, List.getElem?_range hjl] at hj
      simp only [Option.map_some, Option.some.injEq] at hj
      subst hj
      obtain ⟨_, k0, k1, k2⟩ := hf2 j (by omega)
      rw [Addr.add_lit] at k0 k1 k2
      exact ⟨k0, by rw [Nat.add_assoc]; exact k1, by rw [Nat.add_assoc]; exact k2⟩
end Go.Proofs.Ytoaekmighinmhaa
