/-
  slices.Delete at nodes by their pointers that a caller owns: some of them, from a place on. No conditions beyond those stated.
  slices.Clone at nodes by their pointers; take and cut by their contracts. Conditions: as stated.
  take by its contract: an entry of a node, a node below it. Conditions: as stated.
-/
import Derived.Test.YtoaekmighinmhaaU2
import Derived.Test.YtoaekmighinmhaaU4
import Derived.Lib.LazyBuf
import Derived.Test.YtoaekmighinmhaaU9
namespace Go.Proofs.Ytoaekmighinmhaa
open Go.RowKit

theorem zeroCells_lenP (n : Nat) : (Builtin.zeroCells (Value.pointer none).cells n).toList.length = n := by
  have := size_zeroCells (Value.pointer none).cells n
  rw [Array.length_toList, this]; exact Nat.mul_one n
theorem zeroCells_oneP (n : Nat) : ∀ v ∈ (Builtin.zeroCells (Value.pointer none).cells n).toList, v.oneCell' = true := by
  intro v hv
  simp only [Builtin.zeroCells, Array.mem_toList_iff, Array.mem_map, Array.mem_range] at hv
  obtain ⟨r, _, rfl⟩ := hv
  have hr : r % 1 < 1 := Nat.mod_lt _ (by omega)
  have : ∀ q, q < 1 → (#[Value.pointer none][q]!).oneCell' = true := by
    intro q hq
    match q, hq with
    | 0, _ => rfl
  exact this _ hr
theorem clear_rowsP {W : World} {B o n c : Nat} {cur : Array Value} (hg : W.heap[B]? = some (.cells cur 62 (0, 0))) (h : o + (n + 1) ≤ cur.size) :
    ∃ cs, cs.length = (n + 1) ∧ ∀ ty, (Builtin.clear_ #[67] ty #[.slice (some ⟨B, o, none⟩) (n + 1) c]).run Try.prog W = .ok (.tuple #[]) (W.setRow B (cur.toList.take o ++ cs ++ cur.toList.drop (o + (n + 1))).toArray) := by
  obtain ⟨i, hi, hz, hs, hby⟩ := info_parts infoP
  refine ⟨(Builtin.zeroCells (Value.pointer none).cells (n + 1)).toList, zeroCells_lenP (n + 1), ?_⟩
  have hl := zeroCells_lenP (n + 1)
  have hst := run_storeCells_at Try.prog B o 62 _ 0 cur W hg (by rw [hl]; simpa using h) (zeroCells_oneP (n + 1))
  rw [hl] at hst
  simp only [Nat.add_zero] at hst
  intro ty
  simp [Builtin.clear_, run_underlying Try.underlying67, zeroValue, typeInfo, hi, hz, hst]

set_option maxHeartbeats 2000000 in
theorem Delete_rowsP (B i k m q : Nat) (w : World) (cur : Array Value) (hg : w.heap[B]? = some (.cells cur 62 (0, 0))) (hmq : m ≤ q) (hsz : cur.size = (i + (k + 1) + q)) (hone : ∀ u ∈ (cur.toList.take ((i + (k + 1) + m))), u.oneCell' = true) (hn : i + (k + 1) + q ≤ 9223372036854775807) :
    Calls Try.prog 65 #[.slice (some ⟨B, 0, none⟩) (i + (k + 1) + m) (i + (k + 1) + q), .int .i64 (i : Int), .int .i64 ((i : Int) + ((k : Int) + 1))] w
      fun e w' => e = .returned (.slice (some ⟨B, 0, none⟩) (i + m) (i + (k + 1) + q)) ∧ (∃ cur', w'.heap[B]? = some (.cells cur' 62 (0, 0)) ∧ cur'.size = (i + (k + 1) + q) ∧ cur'.toList.take ((i + m)) = cur.toList.take (i) ++ (cur.toList.take ((i + (k + 1) + m))).drop ((i + (k + 1)))) ∧ w.grownBy w' (some B) := by
  obtain ⟨j0, hi0, hz0, hz1, hz2⟩ := info_parts infoP
  have hic : i ≤ i + (k + 1) + m := by omega
  have hjc : i + (k + 1) ≤ i + (k + 1) + m := by omega
  have hmc : i + (k + 1) + m ≤ i + (k + 1) + q := by omega
  have zi1 : (0 : Int) ≤ (i : Int) + ((k : Int) + 1) := by omega
  have zi3 : (i : Int) ≤ (i : Int) + ((k : Int) + 1) + (m : Int) := by omega
  have zi2 : (i : Int) + ((k : Int) + 1) ≤ (i : Int) + ((k : Int) + 1) + (m : Int) := by omega
  have zi4 : (i : Int) + ((k : Int) + 1) + (m : Int) ≤ (i : Int) + ((k : Int) + 1) + (q : Int) := by omega
  have zi5 : (i : Int) ≤ (i : Int) + ((k : Int) + 1) + (q : Int) := by omega
  have zi6 : (i : Int) ≤ (i : Int) + ((k : Int) + 1) := by omega
  have zi7 : ((i : Int) == (i : Int) + ((k : Int) + 1)) = false := by simp; omega
  have zi8 : ((i : Int) + ((k : Int) + 1)).toNat = i + (k + 1) := by omega
  obtain ⟨news, hnews⟩ : ∃ news, news = (cur.toList.take ((i + (k + 1) + m))).drop ((i + (k + 1))) := ⟨_, rfl⟩
  have hlen : news.length = m := by rw [hnews]; simp; omega
  obtain ⟨A, hA, hsrc⟩ : ∃ A : Addr, (if q = 0 then some (⟨B, 0, none⟩ : Addr) else some ⟨B, (i + (k + 1)), none⟩) = some A ∧ Hid (∀ t u, news[t]? = some u → w.drew.cell? (A.add t) = some u) := by
    by_cases h : q = 0
    · refine ⟨⟨B, 0, none⟩, by rw [if_pos h], fun t u hu => ?_⟩
      have h0 : news.length = 0 := by rw [hlen]; omega
      rw [List.length_eq_zero_iff.1 h0] at hu
      simp at hu
    · refine ⟨⟨B, (i + (k + 1)), none⟩, by rw [if_neg h], fun t u hu => ?_⟩
      rw [Addr.add_lit]
      rw [hnews, List.getElem?_drop, List.getElem?_take] at hu
      split at hu
      · show w.cell? _ = _
        simpa [World.cell?, hg] using hu
      · cases hu
  obtain ⟨row1, hrow1⟩ : ∃ row1, row1 = (cur.toList.take (i) ++ news ++ cur.toList.drop (i + news.length)).toArray := ⟨_, rfl⟩
  have hs1 : row1.size = (i + (k + 1) + q) := by rw [hrow1]; simp; omega
  obtain ⟨W1, hW1⟩ : ∃ W1, W1 = w.drew.setRow B row1 := ⟨_, rfl⟩
  have happ : Hid (∀ ty, (Builtin.append_ #[67, 67] ty #[.slice (some ⟨B, 0, none⟩) i (i + (k + 1) + q), .slice (some A) m q]).run Try.prog w.drew = .ok (.slice (some ⟨B, 0, none⟩) (i + m) (i + (k + 1) + q)) W1) := by
    intro ty
    have := run_append_room (P := Try.prog) w.drew 67 ty 62 j0 Try.underlying67 hi0 B i (i + (k + 1) + q) cur hg A m q news (by rw [hz1]; omega) hsrc.out (by intro u hu; rw [hnews] at hu; exact hone u (List.mem_of_mem_drop hu)) (by omega) (by rw [hz1, hlen, hsz]; omega)
    rw [this, hz1, hW1, hrow1]
    rw [Nat.mul_one]
  have hg1 : W1.heap[B]? = some (.cells row1 62 (0, 0)) := by rw [hW1]; exact setRow_heap w.drew B cur row1 _ _ hg
  have e8 : i + (k + 1) + m - (i + m) = k + 1 := by omega
  obtain ⟨zs, hzl, hcl⟩ := clear_rowsP (W := W1) (B := B) (o := (i + m)) (n := k) (c := i + (k + 1) + q - (i + m)) hg1 (by rw [hs1]; omega)
  obtain ⟨row2, hrow2⟩ : ∃ row2, row2 = (row1.toList.take ((i + m)) ++ zs ++ row1.toList.drop ((i + m) + (k + 1))).toArray := ⟨_, rfl⟩
  rw [← hrow2] at hcl
  have e2 : ¬ i + (k + 1) + q = i + m := by omega
  have e3 : ¬ i + (k + 1) + q ≤ i + m := by omega
  have e4 : i + m ≤ i + (k + 1) + m := by omega
  have e5 : (i : Int) + (m : Int) ≤ (i : Int) + ((k : Int) + 1) + (m : Int) := by omega
  have e6 : (0 : Int) ≤ (i : Int) + ((k : Int) + 1) + (m : Int) := by omega
  have e7 : (0 : Int) ≤ (i : Int) + (m : Int) := by omega
  have S := (show Hid _ from And.intro hg1 (And.intro hs1 (And.intro hrow1 (And.intro hrow2 (And.intro hW1 (And.intro hnews (And.intro hlen (And.intro hzl hsz))))))))
  clear hg1 hs1 hrow1 hrow2 hW1 hnews hlen hzl hsrc hsz hone hi0 hz0 hz1 hz2
  go_enter Try.func65, Try.ntmps65
  go_wp2_with fail
  go_region_law (refine step_append_eq rfl (.tmp 22) (.tmp 25) 67 67 rfl _ _ (by simp [Act.eval, Act.put]) (by simp [Act.eval, Act.put]) _ _ (happ.out _) ?_)
  go_wp2
  go_ret
  obtain ⟨hg1, hs1, hrow1, hrow2, hW1, hnews, hlen, hzl, hsz⟩ := S.out
  have hl1 : (row1.toList.take ((i + m))).length = (i + m) := by simp; omega
  refine ⟨rfl, ⟨row2, setRow_heap W1 B row1 row2 _ _ hg1, ?_, ?_⟩, ?_⟩
  · rw [hrow2]; simp; omega
  · rw [hrow2, List.toList_toArray, List.append_assoc, List.take_append_of_le_length (by omega), List.take_of_length_le (by omega), hrow1, List.toList_toArray]
    have hl2 : (cur.toList.take (i) ++ news).length = (i + m) := by simp; omega
    rw [List.take_append_of_le_length (by omega), List.take_of_length_le (by omega), hnews]
  · rw [hW1, setRow_setRow]
    exact ⟨rfl, rfl, rfl, by simp, fun k _ hk => setRow_other w.drew B k _ (fun e => hk (by rw [e]))⟩
/-- some are taken out of a row. -/
theorem Delete_anyP (xs : List Nat) (s : Value) (base i k : Nat) (w : World) (h : w.ownsRow base 62 1 s xs.length (encPs xs)) (hi : i + (k + 1) ≤ xs.length) :
    Calls Try.prog 65 #[s, .int .i64 (i : Int), .int .i64 ((i : Int) + ((k : Int) + 1))] w
      fun e w' => ∃ s', e = .returned s' ∧ w'.ownsRow base 62 1 s' (xs.take i ++ xs.drop (i + (k + 1))).length (encPs (xs.take i ++ xs.drop (i + (k + 1)))) ∧ s'.ownBlock = s.ownBlock ∧ w.grownBy w' s.ownBlock := by
  rcases own_ofP h with ⟨hl, ⟨rfl, hz⟩ | ⟨B, c, cur, rfl, hb, hg, hc1, hc2, hs, ht⟩⟩
  · omega
  obtain ⟨m, hm⟩ : ∃ m, xs.length = i + (k + 1) + m := ⟨xs.length - (i + (k + 1)), by omega⟩
  obtain ⟨q, hq⟩ : ∃ q, c = i + (k + 1) + q := ⟨c - (i + (k + 1)), by omega⟩
  subst hq
  have hlen : (xs.take i ++ xs.drop (i + (k + 1))).length = i + m := by simp; omega
  have hd := Delete_rowsP B i k m q w cur hg (by omega) hs (by rw [← hm, ht]; exact encPs_one xs) (by unfold maxLen at hc2; omega)
  rw [hm]
  refine hd.mono ?_
  rintro e w' ⟨rfl, ⟨cur', h1, h2, h3⟩, h4⟩
  refine ⟨_, rfl, ?_, rfl, h4⟩
  rw [hlen]
  refine own_toP ⟨by rw [encPs_len, hlen], .inr ⟨B, _, cur', rfl, hb, h1, by omega, hc2, h2, ?_⟩⟩
  rw [h3, encPs_append, ← encPs_take, ← encPs_drop, ← hm, ht]
  congr 1
  rw [← ht, List.take_take]
  congr 1
  omega
end Go.Proofs.Ytoaekmighinmhaa

namespace Go.Proofs.Ytoaekmighinmhaa
open Go.RowKit

set_option maxRecDepth 100000 in
theorem Clone_anyP (A : Addr) (m c : Nat) (news : List Value) (w : World) (hm : 0 < m) (hm2 : m ≤ 1000000) (hl : news.length = m) (hnews : ∀ j u, news[j]? = some u → w.cell? (A.add j) = some u) (h1 : ∀ u ∈ news, u.oneCell' = true) :
    Calls Try.prog 64 #[.slice (some A) m c] w fun e w' => ∃ g cap, e = .returned (.slice (some ⟨g, 0, none⟩) m cap) ∧ w'.ownsRow 0 62 1 (.slice (some ⟨g, 0, none⟩) m cap) m news ∧ Below w.heap.size w w' ∧ w.heap.size ≤ g ∧ g < w'.heap.size := by
  obtain ⟨i0, hi, hz0, hz1, hz2⟩ := info_parts infoP
  obtain ⟨W1, hW1⟩ : ∃ W1, w.alloc (.cells #[] 62) = W1 := ⟨_, rfl⟩
  have hb1 : Below w.heap.size w W1 := by rw [← hW1]; exact (Below.refl _ _).alloc (Nat.le_refl _) _
  have hs1 : W1.heap.size = w.heap.size + 1 := by rw [← hW1]; simp
  have hr1 : W1.ownsRow 0 62 1 (.slice (some ⟨w.heap.size, 0, none⟩) 0 0) 0 [] := ⟨by simp, .inr ⟨w.heap.size, 0, #[], rfl, Nat.zero_le _, by rw [← hW1]; exact heap_alloc_new _ _, Nat.le_refl _, by unfold maxLen; omega, by simp, by simp⟩⟩
  have H := (show Hid _ from And.intro hb1 (And.intro hs1 (And.intro hr1 (And.intro (fun j u hj => ((hb1.cell (lt_of_cell (hnews j u hj))).trans (hnews j u hj))) h1))))
  clear hb1 hs1 hr1 hnews h1
  have hq : ∀ a m c W, (binOp .eql 67 (.slice a m c) (.slice none 0 0)).run Try.prog W = .ok (.bool a.isNone) W := fun a m c W => Lib.run_eql_slice_nil W _ _ a m c 0 0 Try.underlying67
  go_enter Try.func64, Try.ntmps64
  go_wp2_with (first | (at_builtin; refine wpList_append_lies _ rfl (.tmp 5) (.tmp 6) 67 rfl 0 62 i0 _ 1 8 Try.underlying67 hi hz0 hz1 hz2 rfl (by decide) _ 0 [] rfl H.out.2.2.1 A m c news rfl (by omega) H.out.2.2.2.1 H.out.2.2.2.2 hm (by unfold maxLen; omega) (by omega) (Nat.zero_le _) _ rfl ?_; intro g cap w3 hown3 hgrow3 hlie hlt3; have Y := (show Hid _ from And.intro hown3 (And.intro hgrow3 (And.intro hlie hlt3))); clear hown3 hgrow3 hlie hlt3))
  go_ret
  obtain ⟨hown3, hgrow3, hlie, hlt3⟩ := Y.out
  rw [Nat.zero_add] at hown3
  have hg : w.heap.size ≤ g := by
    rcases hlie with e | e
    · exact Nat.le_of_eq (Option.some.inj e)
    · rw [e, H.out.2.1]; omega
  exact ⟨g, cap, by simp [go_sem], hown3, H.out.1.grown hgrow3 H.out.1.size (fun k hk => Nat.le_of_eq (Option.some.inj hk)), hg, hlt3⟩

set_option maxRecDepth 100000 in
set_option maxHeartbeats 4000000 in
theorem cut_anyP (t : Nd) (w : World) (h : Sh w t) (h1 : ∀ a, sc a t ≤ 1) (hl : t.kids.length = 6) :
    Calls Try.prog 48 #[.pointer (some ⟨t.b, 1, none⟩), .int .i64 3] w
      fun e w' => ∃ s' g cap, e = .returned (.slice (some ⟨g, 0, none⟩) 3 cap) ∧ Ev1 w t w' { t with k := s', kids := t.kids.take 3 } ∧ s'.ownBlock = t.k.ownBlock ∧ w'.ownsRow 0 62 1 (.slice (some ⟨g, 0, none⟩) 3 cap) 3 (encPs ((t.kids.drop 3).map Nd.b)) ∧ w.heap.size ≤ g ∧ g < w'.heap.size := by
  obtain ⟨B, c, e1, hc1, hc2, hcell, -⟩ := own_cells (h.ks) (by omega)
  have c0 : w.cell? ⟨t.b, 1, none⟩ = some (.slice (some ⟨B, 0, none⟩) 6 c) := by rw [← hl, ← e1]; simp [World.cell?, h.node]
  have fz : ∀ j, w.frozen? ⟨t.b, j, none⟩ = false := fun j => by simp [World.frozen?, h.node]
  rw [hl] at hc1
  have hbw := lt_of_cell c0
  obtain ⟨q, rfl⟩ : ∃ q, c = q + 6 := ⟨c - 6, by omega⟩
  have hrow := h.ks
  rw [e1, hl] at hrow
  have hvb : vc B t.k = 1 := vc_of (by rw [e1]; rfl)
  have hBb : t.b ≠ B := fun e => by
    have := h1 t.b
    unfold sc at this
    rw [if_pos rfl, e] at this
    omega
  have hBl := own_lt h.ks (by omega : vc B t.k ≠ 0)
  have hcl := Clone_anyP ⟨B, 3, none⟩ 3 (q + 3) (encPs ((t.kids.drop 3).map Nd.b)) w (by omega) (by omega) (by rw [encPs_len]; simp; omega)
    (fun j u hj => by
      rw [Addr.add_lit]
      refine hcell _ _ ?_
      rw [List.map_drop, ← encPs_drop, List.getElem?_drop] at hj
      exact hj) (encPs_one _)
  have hdel : ∀ W : World, W.ownsRow 0 62 1 (.slice (some ⟨B, 0, none⟩) 6 (q + 6)) 6 (encPs (t.kids.map Nd.b)) → Calls Try.prog 65 #[.slice (some ⟨B, 0, none⟩) 6 (q + 6), .int .i64 3, .int .i64 6] W
      fun e w' => ∃ s', e = .returned s' ∧ w'.ownsRow 0 62 1 s' 3 (encPs ((t.kids.take 3).map Nd.b)) ∧ s'.ownBlock = some B ∧ W.grownBy w' (some B) := fun W hW => by
    have hlm : (t.kids.map Nd.b).length = 6 := by simpa using hl
    have h3 := Delete_anyP (t.kids.map Nd.b) (.slice (some ⟨B, 0, none⟩) 6 (q + 6)) 0 3 (3 - 1) W (by rw [hlm]; exact hW) (by omega)
    have e4 : (t.kids.map Nd.b).take 3 ++ (t.kids.map Nd.b).drop (3 + (3 - 1 + 1)) = (t.kids.take 3).map Nd.b := by
      rw [List.drop_of_length_le (by omega), List.append_nil]
      rw [List.map_take]
    rw [e4] at h3
    have e5 : ((t.kids.take 3).map Nd.b).length = 3 := by simp; omega
    rw [e5] at h3
    exact h3
  have HH := (show Hid _ from And.intro h (And.intro hrow (And.intro hBb (And.intro hBl e1))))
  clear h hrow e1 hcell
  go_enter Try.func48, Try.ntmps48
  go_wp2_with fail
  refine hcl.mono ?_
  rintro e w1 ⟨g, cap, rfl, hr1, hb1, hg1, hg2⟩
  obtain ⟨h, hrow, hBb, hBl, e1⟩ := HH.out
  have d0 := (hb1.cell (lt_of_cell c0)).trans c0
  have dz : ∀ j, w1.frozen? ⟨t.b, j, none⟩ = false := fun j => (hb1.frozen (p := ⟨t.b, j, none⟩) hbw).trans (fz j)
  have hrow1 := own_keep (W' := w1) hrow fun a ha => hb1.block a (own_lt hrow ha)
  have P0 := fun (w' : World) (h : w'.heap[t.b]? = w1.heap[t.b]?) => (World.cell?_of_block (a := ⟨t.b, 1, none⟩) h).trans d0
  have H1 := (show Hid _ from And.intro hr1 (And.intro hb1 (And.intro hg1 hg2)))
  clear h hrow e1 hr1 hb1 hg1 hg2 hcl c0
  have h0 : (fun w' : World => w'.heap[t.b]? = w1.heap[t.b]?) w1.drew := rfl
  go_wp2_with fail
  refine wp_region_snoc_held2 (S := fun w' => w'.heap[t.b]? = w1.heap[t.b]?) (head := #[_, _, _, _, _, _, _, _, _, _, _]) (last := ⟨_, _, _, _, _, _⟩) mixed (by kernel_rfl) rfl ?_
  refine wpAnyH_take (i := 0) (oi := ⟨_, _, _, _, _, _⟩) (v := ?v1) rfl (by kernel_rfl) (by kernel_rfl) (by kernel_rfl) (fun _ _ _ h => h) (Or.inl ⟨by rfl, ?hy1⟩) h0 ?rest1
  case hy1 => (intro w hSw; (try dsimp only at hSw); go_simp; try with_reducible rfl)
  simp only [Act.put, List.setIfInBounds_toArray, List.set_cons_zero, List.set_cons_succ]
  refine wpAnyH_take (i := 1) (oi := ⟨_, _, _, _, _, _⟩) (v := ?v2) rfl (by kernel_rfl) (by kernel_rfl) (by kernel_rfl) (fun _ _ _ h => h) (Or.inl ⟨by rfl, ?hy2⟩) h0 ?rest2
  case hy2 => (intro w hSw; (try dsimp only at hSw); go_simp; try with_reducible rfl)
  simp only [Act.put, List.setIfInBounds_toArray, List.set_cons_zero, List.set_cons_succ]
  refine wpAnyH_take (i := 2) (oi := ⟨_, _, _, _, _, _⟩) (v := ?v3) rfl (by kernel_rfl) (by kernel_rfl) (by kernel_rfl) (fun _ _ _ h => h) (Or.inl ⟨by rfl, ?hy3⟩) h0 ?rest3
  case hy3 => (intro w hSw; (try dsimp only at hSw); go_simp; try with_reducible rfl)
  simp only [Act.put, List.setIfInBounds_toArray, List.set_cons_zero, List.set_cons_succ]
  refine wpAnyH_take (i := 3) (oi := ⟨_, _, _, _, _, _⟩) (v := ?v4) rfl (by kernel_rfl) (by kernel_rfl) (by kernel_rfl) (fun _ _ _ h => h) (Or.inl ⟨by rfl, ?hy4⟩) h0 ?rest4
  case hy4 => (intro w hSw; (try dsimp only at hSw); go_simp; try with_reducible rfl)
  simp only [Act.put, List.setIfInBounds_toArray, List.set_cons_zero, List.set_cons_succ]
  refine wpAnyH_take (i := 4) (oi := ⟨_, _, _, _, _, _⟩) (v := ?v5) rfl (by kernel_rfl) (by kernel_rfl) (by kernel_rfl) (fun _ _ _ h => h) (Or.inl ⟨by rfl, ?hy5⟩) h0 ?rest5
  case hy5 => (intro w hSw; (try dsimp only at hSw); go_simp; try with_reducible rfl)
  simp only [Act.put, List.setIfInBounds_toArray, List.set_cons_zero, List.set_cons_succ]
  refine wpAnyH_take (i := 5) (oi := ⟨_, _, _, _, _, _⟩) (v := ?v6) rfl (by kernel_rfl) (by kernel_rfl) (by kernel_rfl) (fun _ _ _ h => h) (Or.inl ⟨by rfl, ?hy6⟩) h0 ?rest6
  case hy6 => (intro w hSw; (try dsimp only at hSw); go_simp; try with_reducible rfl)
  simp only [Act.put, List.setIfInBounds_toArray, List.set_cons_zero, List.set_cons_succ]
  refine wpAnyH_take (i := 6) (oi := ⟨_, _, _, _, _, _⟩) (v := ?v7) rfl (by kernel_rfl) (by kernel_rfl) (by kernel_rfl) (fun _ _ _ h => h) (Or.inl ⟨by rfl, ?hy7⟩) h0 ?rest7
  case hy7 => (intro w hSw; (try dsimp only at hSw); go_simp; try with_reducible rfl)
  simp only [Act.put, List.setIfInBounds_toArray, List.set_cons_zero, List.set_cons_succ]
  refine wpAnyH_take (i := 7) (oi := ⟨_, _, _, _, _, _⟩) (v := ?v8) rfl (by kernel_rfl) (by kernel_rfl) (by kernel_rfl) (fun _ _ _ h => h) (Or.inl ⟨by rfl, ?hy8⟩) h0 ?rest8
  case hy8 => (intro w hSw; (try dsimp only at hSw); go_simp; try with_reducible rfl)
  simp only [Act.put, List.setIfInBounds_toArray, List.set_cons_zero, List.set_cons_succ]
  refine wpAnyH_take (i := 8) (oi := ⟨_, _, _, _, _, _⟩) (v := ?v9) rfl (by kernel_rfl) (by kernel_rfl) (by kernel_rfl) (fun _ _ _ h => h) (Or.inl ⟨by rfl, ?hy9⟩) h0 ?rest9
  case hy9 => (intro w hSw; (try dsimp only at hSw); go_simp; try with_reducible rfl)
  simp only [Act.put, List.setIfInBounds_toArray, List.set_cons_zero, List.set_cons_succ]
  refine wpAnyH_ready (rs := [9]) (by kernel_rfl) (by simp) ?_
  refine AllReadyH.cons (o := ⟨_, _, _, _, _, _⟩) rfl (fun K hK => ?_) AllReadyH.nil
  go_simp
  refine (hdel w1.drew hrow1).mono ?_
  rintro e w2 ⟨s', rfl, hr2, ho2, hg2⟩
  obtain ⟨a2, c2, rfl⟩ := slice_of_row hr2
  have h2 : w2.heap[t.b]? = w1.heap[t.b]? := hg2.block t.b (Nat.lt_of_lt_of_le hbw H1.out.2.1.size) (fun e => hBb (Option.some.inj e))
  refine hK.out _ _ h2 (fun hHeld => ?_)
  clear hK K hHeld
  try simp only [Act.put, List.setIfInBounds_toArray, List.set_cons_zero, List.set_cons_succ]
  refine wpAnyH_ready (rs := [10]) (by kernel_rfl) (by simp) ?_
  refine AllReadyH.cons (o := ⟨_, _, _, _, _, _⟩) rfl (fun K hK => ?_) AllReadyH.nil
  go_simp
  refine hK.out _ _ h2 (fun hHeld => ?_)
  clear hK K hHeld
  try simp only [Act.put, List.setIfInBounds_toArray, List.set_cons_zero, List.set_cons_succ]
  refine wpAnyH_done (by kernel_rfl) ?_ _
  have e0 := P0 w2 h2
  have ez : ∀ j, w2.frozen? ⟨t.b, j, none⟩ = false := fun j => (World.frozen?_of_block (a := ⟨t.b, j, none⟩) h2).trans (dz j)
  have H2 := (show Hid _ from And.intro hr2 (And.intro ho2 hg2))
  clear P0 hr2 ho2 hg2 d0 dz hdel hrow1 h0 h2
  show Oper.wp _ _ _ _ _ _
  go_simp
  go_wp2
  go_ret
  obtain ⟨h, hrow, hBb, hBl, e1⟩ := HH.out
  obtain ⟨hr1, hb1, hg1, hg2⟩ := H1.out
  obtain ⟨hr2, ho2, hgr⟩ := H2.out
  have hov : t.k.ownBlock = some B := by rw [e1]; rfl
  have hlt : (t.kids.take 3).length = 3 := by rw [List.length_take]; omega
  have hEv := ev1_putK  (ks' := t.kids.take 3) h h1 (hb1.drew) (by rw [hov]; exact hgr) (by rw [hlt]; exact hr2) (fun hn => by rw [hn] at hlt; cases hlt) (.inl (by rw [hov, ho2]))
  refine ⟨_, g, cap, rfl, hEv, by rw [ho2, hov], ?_, hg1, ?_⟩
  · refine own_keep hr1 fun a ha => ?_
    obtain rfl : g = a := by have := vc_ne ha; exact Option.some.inj this
    have hne : g ≠ t.b := by omega
    have hne2 : g ≠ B := by omega
    rw [Below.heap_setCell _ _ _ _ hne]
    exact hgr.block g hg2 (fun e => hne2 (Option.some.inj e))
  · have := hgr.size
    show g < (w2.setCell _ _).heap.size
    simp only [World.setCell, Array.size_modify]
    exact Nat.lt_of_lt_of_le hg2 this
end Go.Proofs.Ytoaekmighinmhaa

namespace Go.Proofs.Ytoaekmighinmhaa
open Go.RowKit

set_option maxRecDepth 100000 in
set_option maxHeartbeats 4000000 in
theorem takeE_any (t : Nd) (i : Nat) (x : En) (w : World) (h : Sh w t) (h1 : ∀ a, sc a t ≤ 1) (hx : t.es[i]? = some x) (hn : t.es.length ≤ 1000000) :
    Calls Try.prog 36 #[.pointer (some ⟨t.b, 0, none⟩), .int .i64 i] w
      fun e w' => e = .returned (.agg #[.string x.1, .int .i64 x.2]) ∧ ∃ s', Ev1 w t w' { t with s := s', es := t.es.take i ++ t.es.drop (i + 1) } ∧ s'.ownBlock = t.s.ownBlock := by
  obtain ⟨B, c, e1, hc1, hc2, c0, ck, ci, -⟩ := h.entryv hx
  have fz : ∀ j, w.frozen? ⟨t.b, j, none⟩ = false := fun j => by simp [World.frozen?, h.node]
  have hbw := lt_of_cell c0
  have hi := (List.getElem?_eq_some_iff.1 hx).1
  have hrow := h.es
  rw [e1] at hrow
  have hvb : vc B t.s = 1 := vc_of (by rw [e1]; rfl)
  have hBb : t.b ≠ B := fun e => by
    have := h1 t.b
    unfold sc at this
    rw [if_pos rfl, e] at this
    omega
  have hBl : B < w.heap.size := own_lt h.es (by omega : vc B t.s ≠ 0)
  obtain ⟨m, hm⟩ : ∃ m, (t.es.take i ++ t.es.drop (i + 1)).length = m := ⟨_, rfl⟩
  have hdel : ∀ W : World, W.ownsRow 0 34 2 (.slice (some ⟨B, 0, none⟩) t.es.length c) t.es.length (encEns t.es) → Calls Try.prog 50 #[.slice (some ⟨B, 0, none⟩) t.es.length c, .int .i64 i, .int .i64 ((i : Int) + 1)] W
      fun e w' => ∃ s', e = .returned s' ∧ w'.ownsRow 0 34 2 s' m (encEns (t.es.take i ++ t.es.drop (i + 1))) ∧ s'.ownBlock = some B ∧ W.grownBy w' (some B) := fun W hW => by
    have h3 := Delete_anyE t.es _ 0 i 0 W hW (by omega)
    simp only [Nat.zero_add] at h3
    rw [hm] at h3
    exact h3
  obtain ⟨xk, xi⟩ := x
  obtain ⟨W2, hW2⟩ : ∃ W2, (w.alloc (.cells #[.string ⟨#[]⟩, .int .i64 0] 34)).alloc (.cells #[.string xk, .int .i64 xi] 34) = W2 := ⟨_, rfl⟩
  have hb2 : Below w.heap.size w W2 := by rw [← hW2]; exact ((Below.refl _ _).alloc (Nat.le_refl _) _).alloc (by simp) _
  have hs2 : W2.heap.size = w.heap.size + 2 := by rw [← hW2]; simp
  have r0 : W2.heap[w.heap.size]? = some (.cells #[.string ⟨#[]⟩, .int .i64 0] 34) := by rw [← hW2, Below.heap_alloc _ _ _ (by simp)]; exact heap_alloc_new _ _
  have r1 : W2.heap[w.heap.size + 1]? = some (.cells #[.string xk, .int .i64 xi] 34) := by
    rw [← hW2]
    have := heap_alloc_new (w.alloc (.cells #[.string ⟨#[]⟩, .int .i64 0] 34)) (.cells #[.string xk, .int .i64 xi] 34)
    simpa using this
  have hrow2 := own_keep (W' := W2) hrow fun a ha => hb2.block a (own_lt hrow ha)
  have hcall := hdel W2 hrow2
  have d0 := (hb2.cell (lt_of_cell c0)).trans c0
  have zil : (i : Int) < (t.es.length : Int) := by omega
  have HZ : Hid (wrap64 ((i : Int) + 1) = (i : Int) + 1) := by unfold Hid wrap64; omega
  have hBw := lt_of_cell ck
  have HH := (show Hid _ from And.intro h (And.intro e1 (And.intro hBb (And.intro hb2 hs2))))
  have RR := (show Hid _ from And.intro r0 r1)
  have HX := (show Hid _ from hm)
  generalize t.es.length = l at *
  clear h hrow hx hm hdel hrow2 hb2 hs2 r0 r1
  have zi := HZ.out
  go_enter Try.func36, Try.ntmps36
  go_wp2_with fail
  clear zi
  refine hcall.mono ?_
  rintro e w3 ⟨s', rfl, hr3, ho3, hg3⟩
  obtain ⟨a2, c2, rfl⟩ := slice_of_row hr3
  have keep : ∀ j, j < w.heap.size + 2 → j ≠ B → w3.heap[j]? = W2.heap[j]? := fun j hj hne => hg3.block j (by rw [HH.out.2.2.2.2]; exact hj) (fun e => hne (Option.some.inj e))
  have g0 := (keep w.heap.size (by omega) (by omega)).trans RR.out.1
  have g1 := (keep (w.heap.size + 1) (by omega) (by omega)).trans RR.out.2
  have p0 : w3.cell? ⟨w.heap.size, 0, none⟩ = some (.string ⟨#[]⟩) := by simp [World.cell?, g0]
  have p1 : w3.cell? ⟨w.heap.size, 1, none⟩ = some (.int .i64 0) := by simp [World.cell?, g0]
  have pf : ∀ j, w3.frozen? ⟨w.heap.size, j, none⟩ = false := fun j => by simp [World.frozen?, g0]
  have q0 : w3.cell? ⟨w.heap.size + 1, 0, none⟩ = some (.string xk) := by simp [World.cell?, g1]
  have q1 : w3.cell? ⟨w.heap.size + 1, 1, none⟩ = some (.int .i64 xi) := by simp [World.cell?, g1]
  have e3 := (World.cell?_of_block (a := ⟨t.b, 0, none⟩) (keep t.b (by omega) hBb)).trans d0
  have ez : ∀ j, w3.frozen? ⟨t.b, j, none⟩ = false := fun j => (World.frozen?_of_block (a := ⟨t.b, j, none⟩) (keep t.b (by omega) hBb)).trans ((HH.out.2.2.2.1.frozen (p := ⟨t.b, j, none⟩) hbw).trans (fz j))
  have n1 : ¬ t.b = w.heap.size := by omega
  have n2 : ¬ t.b = w.heap.size + 1 := by omega
  have n3 : ¬ w.heap.size = t.b := by omega
  have n4 : ¬ w.heap.size + 1 = t.b := by omega
  have H3 := (show Hid _ from And.intro hr3 (And.intro ho3 (And.intro hg3 g0)))
  clear hr3 ho3 hg3 keep g0 g1 hcall d0
  go_wp2
  obtain ⟨h, e1, hBb, hb2, hs2⟩ := HH.out
  obtain ⟨hr3, ho3, hg3, g0⟩ := H3.out
  have hov : t.s.ownBlock = some B := by rw [e1]; rfl
  have hEv := ev1_putS (es' := t.es.take i ++ t.es.drop (i + 1)) h h1 hb2 (by rw [hov]; exact hg3) (by rw [HX.out]; exact hr3) (.inl (by rw [hov, ho3]))
  have hEv2 := hEv.late (((Below.refl _ _).setCell (p := ⟨w.heap.size, 0, none⟩) (Nat.le_refl _) (.string xk)).setCell (p := ⟨w.heap.size, 1, none⟩) (Nat.le_refl _) (.int .i64 xi)) fun a ha => (by
    rw [sc_putS (by rw [ho3, hov])] at ha
    exact h.lt ha)
  have g4 : (w3.setCell ⟨t.b, 0, none⟩ (.slice a2 m c2)).heap[w.heap.size]? = some (.cells #[.string ⟨#[]⟩, .int .i64 0] 34) := by
    rw [Below.heap_setCell _ _ _ _ n3]; exact g0
  obtain ⟨W4, hW4⟩ : ∃ W4, (((w3.setCell ⟨t.b, 0, none⟩ (.slice a2 m c2)).setCell ⟨w.heap.size, 0, none⟩ (.string xk)).setCell ⟨w.heap.size, 1, none⟩ (.int .i64 xi)) = W4 := ⟨_, rfl⟩
  have r4 : W4.heap[w.heap.size]? = some (.cells #[.string xk, .int .i64 xi] 34) := by rw [← hW4, heap_setCell_at (heap_setCell_at g4)]; rfl
  rw [hW4] at hEv2 ⊢
  have f0 : W4.cell? ⟨w.heap.size, 0, none⟩ = some (.string xk) := by simp [World.cell?, r4]
  have f1 : W4.cell? ⟨w.heap.size, 1, none⟩ = some (.int .i64 xi) := by simp [World.cell?, r4]
  exact bodyPost_ret (v := .agg #[.string xk, .int .i64 xi]) (by simp [results, Try.results36, go_sem, f0, f1]) rfl ⟨rfl, _, hEv2, by rw [ho3, hov]⟩
theorem takeP_any (t : Nd) (i : Nat) (x : Nd) (w : World) (h : Sh w t) (h1 : ∀ a, sc a t ≤ 1) (hx : t.kids[i]? = some x) (hn : t.kids.length ≤ 1000000) (h2 : 2 ≤ t.kids.length) :
    Calls Try.prog 68 #[.pointer (some ⟨t.b, 1, none⟩), .int .i64 i] w
      fun e w' => e = .returned (.pointer (some ⟨x.b, 0, none⟩)) ∧ ∃ s', Ev1 w t w' { t with k := s', kids := t.kids.take i ++ t.kids.drop (i + 1) } ∧ s'.ownBlock = t.k.ownBlock := by
  obtain ⟨B, c, e1, hc1, hc2, c0, ck, -⟩ := h.kidv hx
  have fz : ∀ j, w.frozen? ⟨t.b, j, none⟩ = false := fun j => by simp [World.frozen?, h.node]
  have hbw := lt_of_cell c0
  have hi := (List.getElem?_eq_some_iff.1 hx).1
  have hrow := h.ks
  rw [e1] at hrow
  have hvb : vc B t.k = 1 := vc_of (by rw [e1]; rfl)
  have hBb : t.b ≠ B := fun e => by
    have := h1 t.b
    unfold sc at this
    rw [if_pos rfl, e] at this
    omega
  obtain ⟨m, hm⟩ : ∃ m, (t.kids.take i ++ t.kids.drop (i + 1)).length = m := ⟨_, rfl⟩
  have hm1 : 1 ≤ m := by rw [← hm]; simp; omega
  have hdel : Calls Try.prog 65 #[.slice (some ⟨B, 0, none⟩) t.kids.length c, .int .i64 i, .int .i64 ((i : Int) + 1)] w
      fun e w' => ∃ s', e = .returned s' ∧ w'.ownsRow 0 62 1 s' m (encPs ((t.kids.take i ++ t.kids.drop (i + 1)).map Nd.b)) ∧ s'.ownBlock = some B ∧ w.grownBy w' (some B) := by
    have h3 := Delete_anyP (t.kids.map Nd.b) _ 0 i 0 w (by rw [List.length_map]; exact hrow) (by rw [List.length_map]; omega)
    simp only [Nat.zero_add] at h3
    have e4 : (t.kids.map Nd.b).take i ++ (t.kids.map Nd.b).drop (i + 1) = (t.kids.take i ++ t.kids.drop (i + 1)).map Nd.b := by rw [List.map_append, List.map_take, List.map_drop]
    rw [e4, List.length_map, hm] at h3
    exact h3
  have zil : (i : Int) < (t.kids.length : Int) := by omega
  have HZ : Hid (wrap64 ((i : Int) + 1) = (i : Int) + 1) := by unfold Hid wrap64; omega
  have HH := (show Hid _ from And.intro h (And.intro e1 (And.intro hBb (And.intro hm hm1))))
  generalize t.kids.length = l at *
  clear h hrow hx hm hm1
  have zi := HZ.out
  go_enter Try.func68, Try.ntmps68
  go_wp2_with fail
  clear zi
  refine hdel.mono ?_
  rintro e w3 ⟨s', rfl, hr3, ho3, hg3⟩
  obtain ⟨a2, c2, rfl⟩ := slice_of_row hr3
  have k3 : w3.heap[t.b]? = w.heap[t.b]? := hg3.block t.b hbw (fun e => hBb (Option.some.inj e))
  have e3 := (World.cell?_of_block (a := ⟨t.b, 1, none⟩) k3).trans c0
  have ez : ∀ j, w3.frozen? ⟨t.b, j, none⟩ = false := fun j => (World.frozen?_of_block (a := ⟨t.b, j, none⟩) k3).trans (fz j)
  have H3 := (show Hid _ from And.intro hr3 (And.intro ho3 hg3))
  clear hr3 ho3 hg3 k3 hdel c0
  go_wp2
  go_ret
  obtain ⟨h, e1, hBb, hm, hm1⟩ := HH.out
  obtain ⟨hr3, ho3, hg3⟩ := H3.out
  have hov : t.k.ownBlock = some B := by rw [e1]; rfl
  have hEv := ev1_putK (ks' := t.kids.take i ++ t.kids.drop (i + 1)) h h1 (Below.refl _ _) (by rw [hov]; exact hg3) (by rw [hm]; exact hr3) (fun hc => by rw [hc] at hm; simp at hm; omega) (.inl (by rw [hov, ho3]))
  exact ⟨rfl, _, hEv, by rw [ho3, hov]⟩
end Go.Proofs.Ytoaekmighinmhaa
