/-
  slices.Insert at nodes by their pointers that a caller owns: without room, and with it, in the midst and at the end. Conditions: as stated.
  An entry, a node, is inserted into a node's own, and put back; entries are appended. Conditions: as stated.
  split by its contract: a node that has one entry too many is cut in two. Conditions: as stated.
  What turnRight, turnLeft, join leave behind. Conditions: as stated.
  Of three nodes beside one another two. Conditions: as stated.
-/
import Derived.Test.YtoaekmighinmhaaU2
import Derived.Test.YtoaekmighinmhaaU10
import Derived.Test.YtoaekmighinmhaaU6
namespace Go.Proofs.Ytoaekmighinmhaa
open Go.RowKit

theorem run_copy_rowsP (w : World) (ty g o dLen dCap : Nat) (a : Addr) (sLen sCap : Nat) (cur : Array Value) (cs : List Value)
    (hg : w.heap[g]? = some (.cells cur 62 (0, 0))) (hn : cs.length = Nat.min sLen dLen)
    (hsrc : ∀ j v, cs[j]? = some v → w.cell? (a.add j) = some v) (hfit : o + cs.length ≤ cur.size) (h1 : ∀ v ∈ cs, v.oneCell' = true) :
    (Builtin.copy_ #[67, 67] ty #[.slice (some ⟨g, o, none⟩) dLen dCap, .slice (some a) sLen sCap]).run Try.prog w =
      .ok (goInt (Nat.min sLen dLen)) (w.setRow g (cur.toList.take o ++ cs ++ cur.toList.drop (o + cs.length)).toArray) := by
  obtain ⟨j0, hi0, hz0, hz1, hz2⟩ := info_parts infoP
  have hl := run_firstCells_some (P := Try.prog) w 1 (Nat.min sLen dLen) a sLen sCap cs (by omega) hsrc
  have hst := run_storeCells_at Try.prog g o 62 cs 0 cur w hg (by simpa using hfit) h1
  simp only [Nat.add_zero] at hst
  simp [Builtin.copy_, run_underlying Try.underlying67, Builtin.lenOf, sizeOf, typeInfo, hi0, hz1, hl, hst]

set_option maxHeartbeats 2000000 in
theorem Insert_nilP (nw : Nat) (Bv : Nat) (w : World) (hv : ∀ j u, (encP nw)[j]? = some u → w.cell? ⟨Bv, j, none⟩ = some u) :
    Calls Try.prog 49 #[.slice none 0 0, .int .i64 0, .slice (some ⟨Bv, 0, none⟩) 1 1] w
      fun e w' => ∃ v', e = .returned v' ∧ RowAt (fun k => k = w.heap.size) w' 62 1 v' 1 (encP nw) ∧ Below w.heap.size w w' := by
  obtain ⟨j0, hi0, hz0, hz1, hz2⟩ := info_parts infoP
  obtain ⟨gc, row0, W1, hge, hle, hs0, ht0, hW1, happ⟩ : ∃ (gc : Nat) (row0 : Array Value) (W1 : World), 1 ≤ gc ∧ gc ≤ maxLen ∧ row0.size = gc ∧ row0.toList.take (1) = (encP nw) ∧ W1 = w.drew.alloc (.cells row0 62) ∧ Hid (∀ ty, (Builtin.append_ #[67, 67] ty #[.slice none 0 0, .slice (some ⟨Bv, 0, none⟩) 1 1]).run Try.prog w = .ok (.slice (some ⟨w.heap.size, 0, none⟩) 1 gc) W1) := by
    have hr := fun ty => run_append_nil (P := Try.prog) w 67 ty 62 j0 _ Try.underlying67 hi0 hz0 ⟨Bv, 0, none⟩ 1 1 (encP nw) (by rw [hz1]; rfl) (fun j v h => by rw [Addr.add_lit, Nat.zero_add]; exact hv j v h) (by omega) (by omega) (by rw [hz2]; omega)
    refine ⟨_, _, _, grownCap_ge _ _ _ _, grownCap_le_maxLen _ _ _ _ (by unfold maxLen; omega), ?_, ?_, rfl, hr⟩
    · have := grownCap_ge w 1 0 62
      simp only [Array.size_append, List.size_toArray, size_zeroCells]
      rw [show (Value.pointer none).cells.size = 1 from rfl, show (encP nw).length = 1 from rfl]
      omega
    · simp only [Array.toList_append]
      rw [show 1 = (encP nw).length from rfl]
      exact List.take_left
  have S := (show Hid _ from And.intro hle (And.intro hs0 (And.intro ht0 hW1)))
  clear hv hle hs0 ht0 hW1 hi0 hz0 hz1 hz2
  go_enter Try.func49, Try.ntmps49
  go_wp2_with (first | (at_builtin; refine Lib.wpList_append_run _ rfl (.tmp 23) (.tmp 24) _ _ rfl _ _ rfl rfl _ _ (happ.out _) ?_))
  go_ret
  obtain ⟨hle, hs0, ht0, hW1⟩ := S.out
  refine ⟨.slice (some ⟨w.heap.size, 0, none⟩) 1 gc, rfl, ⟨own_toP ⟨rfl, .inr ⟨w.heap.size, gc, row0, rfl, Nat.zero_le _, ?_, by omega, hle, hs0, ht0⟩⟩, by omega, fun b hb => by cases hb; rfl⟩, ?_⟩
  · rw [hW1]; exact heap_alloc_new w.drew _
  · rw [hW1]; exact ((Below.refl _ _).drew).alloc (Nat.le_refl _) _

set_option maxHeartbeats 2000000 in
theorem Insert_midP (B Bv i p : Nat) (nw : Nat) (cur : Array Value) (w : World) (hg : w.heap[B]? = some (.cells cur 62 (0, 0))) (hsz : cur.size = (i + 1 + p)) (hone : ∀ u ∈ cur.toList, u.oneCell' = true) (hone2 : ∀ u ∈ (encP nw), u.oneCell' = true) (hn : i + 1 + p < 1000000)
    (hv : ∀ j u, (encP nw)[j]? = some u → w.cell? ⟨Bv, j, none⟩ = some u) :
    Calls Try.prog 49 #[.slice (some ⟨B, 0, none⟩) (i + 1 + p) (i + 1 + p), .int .i64 (i : Int), .slice (some ⟨Bv, 0, none⟩) 1 1] w
      fun e w' => ∃ v', e = .returned v' ∧ RowAt (fun k => k = w.heap.size) w' 62 1 v' (i + 1 + p + 1) (cur.toList.take (i) ++ (encP nw) ++ cur.toList.drop (i)) ∧ Below w.heap.size w w' := by
  obtain ⟨j0, hi0, hz0, hz1, hz2⟩ := info_parts infoP
  have hBl := lt_of_heap hg
  have hl0 : (cur.toList.take (i)).length = i := by simp; omega
  obtain ⟨gc, row0, W1, hge, hle, hs0, ht0, hW1, happ⟩ : ∃ (gc : Nat) (row0 : Array Value) (W1 : World), i + (p + 2) ≤ gc ∧ gc ≤ maxLen ∧ row0.size = gc ∧ row0.toList.take (i) = cur.toList.take (i) ∧ W1 = w.drew.alloc (.cells row0 62) ∧ Hid (∀ ty, (Builtin.append_ #[67, 3] ty #[.slice (some ⟨B, 0, none⟩) i (i + 1 + p), .int .i64 ((p + 2 : Nat) : Int)]).run Try.prog w = .ok (.slice (some ⟨w.heap.size, 0, none⟩) (i + (p + 2)) gc) W1) := by
    have hr := fun ty => Lib.run_append_grow_zeros (P := Try.prog) w 67 3 ty 62 j0 _ .i64 .i64 Try.underlying67 Try.underlying3 hi0 hz0 (some ⟨B, 0, none⟩) i (i + 1 + p) (cur.toList.take (i)) (by
      rw [hz1]
      refine run_firstCells_some (P := Try.prog) w.drew 1 i ⟨B, 0, none⟩ i (i + 1 + p) _ (by omega) fun j v hj => ?_
      rw [Addr.add_lit, Nat.zero_add]
      rw [List.getElem?_take] at hj
      split at hj
      · show w.cell? _ = _
        simpa [World.cell?, hg] using hj
      · cases hj) (p + 2) (by omega) (by rw [hz1]; omega) (by omega) (by omega) (by rw [hz2]; omega) (by rw [hz2]; exact growslice_fits (by omega) (by omega))
    refine ⟨_, _, _, grownCap_ge _ _ _ _, grownCap_le_maxLen _ _ _ _ (by unfold maxLen; omega), ?_, ?_, rfl, hr⟩
    · have := grownCap_ge w (i + (p + 2)) (i + 1 + p) 62
      simp only [Array.size_append, List.size_toArray, size_zeroCells, hl0]
      rw [show (Value.pointer none).cells.size = 1 from rfl]
      omega
    · simp only [Array.toList_append, List.append_assoc]
      rw [List.take_append_of_le_length (by rw [List.toList_toArray, hl0]; omega), List.toList_toArray, List.take_take, Nat.min_self]
  have hg1 : W1.heap[w.heap.size]? = some (.cells row0 62 (0, 0)) := by rw [hW1]; exact heap_alloc_new w.drew _
  have hB1 : Below w.heap.size w W1 := by rw [hW1]; exact ((Below.refl _ _).drew).alloc (Nat.le_refl _) _
  obtain ⟨row1, hrow1⟩ : ∃ row1, row1 = (row0.toList.take (i) ++ (encP nw) ++ row0.toList.drop (i + (encP nw).length)).toArray := ⟨_, rfl⟩
  have hen : (encP nw).length = 1 := rfl
  have hs1 : row1.size = gc := by rw [hrow1]; simp; omega
  obtain ⟨W2, hW2⟩ : ∃ W2, W2 = W1.setRow w.heap.size row1 := ⟨_, rfl⟩
  have hlv : Bv < w.heap.size := lt_of_cell (hv 0 _ rfl)
  obtain ⟨r1, hcp1⟩ : ∃ r, Hid (∀ ty, (Builtin.copy_ #[67, 67] ty #[.slice (some ⟨w.heap.size, i, none⟩) (p + 2) (gc - i), .slice (some ⟨Bv, 0, none⟩) 1 1]).run Try.prog W1 = .ok r W2) := by
    refine ⟨goInt ((Nat.min 1 (p + 2) : Nat) : Int), fun ty => ?_⟩
    have hmn : Nat.min 1 (p + 2) = 1 := by simp
    have := run_copy_rowsP W1 ty w.heap.size (i) (p + 2) (gc - i) ⟨Bv, 0, none⟩ 1 1 row0 (encP nw) hg1 (by rw [hmn]; rfl) (fun j u hj => by rw [Addr.add_lit, Nat.zero_add, hB1.cell hlv]; exact hv j u hj) (by rw [hen, hs0]; omega) hone2
    rw [this, hW2, hrow1]
  have hg2 : W2.heap[w.heap.size]? = some (.cells row1 62 (0, 0)) := by rw [hW2]; exact setRow_heap W1 _ row0 row1 _ _ hg1
  have hB2 : Below w.heap.size w W2 := by rw [hW2]; exact below_row hB1 (Nat.le_refl _) _
  obtain ⟨rest, hrest⟩ : ∃ rest, rest = cur.toList.drop (i) := ⟨_, rfl⟩
  have hlr : rest.length = (p + 1) := by rw [hrest]; simp; omega
  obtain ⟨row2, hrow2⟩ : ∃ row2, row2 = (row1.toList.take ((i + 1)) ++ rest ++ row1.toList.drop ((i + 1) + rest.length)).toArray := ⟨_, rfl⟩
  have hs2 : row2.size = gc := by rw [hrow2]; simp; omega
  obtain ⟨W3, hW3⟩ : ∃ W3, W3 = W2.drew.setRow w.heap.size row2 := ⟨_, rfl⟩
  obtain ⟨r2, hcp2⟩ : ∃ r, Hid (∀ ty, (Builtin.copy_ #[67, 67] ty #[.slice (some ⟨w.heap.size, (i + 1), none⟩) (p + 1) (gc - (i + 1)), .slice (some ⟨B, i, none⟩) (p + 1) (p + 1)]).run Try.prog W2.drew = .ok r W3) := by
    refine ⟨goInt ((Nat.min (p + 1) (p + 1) : Nat) : Int), fun ty => ?_⟩
    have hmn : Nat.min (p + 1) (p + 1) = p + 1 := by simp
    have := run_copy_rowsP W2.drew ty w.heap.size ((i + 1)) (p + 1) (gc - (i + 1)) ⟨B, i, none⟩ (p + 1) (p + 1) row1 rest hg2 (by rw [hmn]; omega) (fun j u hj => by
      rw [Addr.add_lit]
      show W2.cell? _ = _
      rw [hB2.cell hBl]
      rw [hrest, List.getElem?_drop] at hj
      simpa [World.cell?, hg] using hj) (by rw [hlr, hs1]; omega) (fun u hu => hone u (by rw [hrest] at hu; exact List.mem_of_mem_drop hu))
    rw [this, hW3, hrow2]
  have S := (show Hid _ from And.intro hg2 (And.intro hB2 (And.intro hW3 (And.intro hrow2 (And.intro hrow1 (And.intro hrest (And.intro hlr (And.intro hs1 (And.intro hs2 (And.intro hle (And.intro ht0 hl0)))))))))))
  clear hg2 hB2 hW3 hrow2 hrow1 hrest hlr hs1 hs2 hle ht0 hW1 hW2 hg1 hB1 hone hone2 hv hi0 hz0 hz1 hz2 hs0 hg hsz hl0
  have hc1 := hcp1.out
  have q1 : ((i : Int) == (i : Int) + 1 + (p : Int)) = false := by simp; omega
  have q2 : ¬ gc = i := by omega
  have qw : IntKind.i64.wrap ((i : Int) + 1) = (i : Int) + 1 := by rw [IntKind.wrap_i64]; omega
  have q6 : (0 : Int) ≤ (i : Int) + 1 := by omega
  have q7 : (i : Int) + 1 ≤ (i : Int) + ((p : Int) + 2) := by omega
  have q8 : i + (p + 2) - (i + 1) = p + 1 := by omega
  have q9 : i + 1 + p - i = p + 1 := by omega
  have q10 : (i : Int) ≤ (i : Int) + 1 + (p : Int) := by omega
  have q3 : ¬ gc = i + 1 := by omega
  have q4 : i ≤ i + 1 + p := by omega
  have q5 : ¬ i + 1 + p = i := by omega
  go_enter Try.func49, Try.ntmps49
  go_wp2_with (first | (at_builtin; refine Lib.wpList_append_run _ rfl (.tmp 34) (.tmp 39) _ _ rfl _ _ rfl (show Value.int .i64 _ = Value.int .i64 _ by congr 1; omega) _ _ (happ.out _) ?_))
  go_region_law (refine step_copy_eq rfl (.tmp 50) (.tmp 53) 67 67 rfl _ _ (by simp [Act.eval, Act.put]) (by simp [Act.eval, Act.put]) _ _ (hcp2.out _) ?_)
  go_wp2
  go_ret
  obtain ⟨hg2, hB2, hW3, hrow2, hrow1, hrest, hlr, hs1, hs2, hle, ht0, hl0⟩ := S.out
  have e : i + (p + 2) = i + 1 + p + 1 := by omega
  have hl1 : (row1.toList.take ((i + 1))).length = (i + 1) := by simp; omega
  have t1 : row1.toList.take ((i + 1)) = cur.toList.take (i) ++ (encP nw) := by
    rw [hrow1, List.toList_toArray, ht0]
    have : (cur.toList.take (i) ++ (encP nw)).length = (i + 1) := by rw [List.length_append, hl0, hen]
    rw [List.take_append_of_le_length (by omega), List.take_of_length_le (by omega)]
  refine ⟨.slice (some ⟨w.heap.size, 0, none⟩) (i + 1 + p + 1) gc, by rw [← e]; rfl, ⟨own_toP ⟨?_, .inr ⟨w.heap.size, gc, row2, rfl, Nat.zero_le _, ?_, by omega, hle, hs2, ?_⟩⟩, ?_, fun b hb => by cases hb; rfl⟩, ?_⟩
  · rw [← hrest, List.length_append, List.length_append, hl0, hen, hlr]; omega
  · rw [hW3]; exact setRow_heap W2.drew _ row1 row2 _ _ hg2
  · rw [hrow2, List.toList_toArray, t1, ← hrest]
    have : (cur.toList.take (i) ++ (encP nw) ++ rest).length = (i + 1 + p + 1) := by rw [List.length_append, List.length_append, hl0, hen, hlr]; omega
    rw [List.take_append_of_le_length (by omega), List.take_of_length_le (by omega)]
  · omega
  · rw [hW3]; exact below_row hB2.drew (Nat.le_refl _) _

theorem sizeP (w : World) : (Go.sizeOf 62).run Try.prog w = .ok 1 w := by
  simp [go_sem, Try.sizeOf62]

set_option maxRecDepth 100000 in
set_option maxHeartbeats 2000000 in
theorem Insert_inP (B Bv i p c : Nat) (nw : Nat) (cur : Array Value) (w : World) (hg : w.heap[B]? = some (.cells cur 62 (0, 0))) (hsz : cur.size = c) (hc : i + 1 + p < c) (_hcm : c ≤ 9223372036854775807) (hone : ∀ u ∈ cur.toList.take ((i + 1 + p)), u.oneCell' = true) (hone2 : ∀ u ∈ (encP nw), u.oneCell' = true) (hn : i + 1 + p < 1000000)
    (hne : Bv ≠ B) (row : w.heap[Bv]? = some (.cells (encP nw).toArray 62 (0, 0))) :
    Calls Try.prog 49 #[.slice (some ⟨B, 0, none⟩) (i + 1 + p) c, .int .i64 (i : Int), .slice (some ⟨Bv, 0, none⟩) 1 1] w
      fun e w' => e = .returned (.slice (some ⟨B, 0, none⟩) (i + 1 + p + 1) c) ∧ (∃ cur', w'.heap[B]? = some (.cells cur' 62 (0, 0)) ∧ cur'.size = c ∧ cur'.toList.take ((i + 1 + p + 1)) = cur.toList.take (i) ++ (encP nw) ++ (cur.toList.take ((i + 1 + p))).drop (i)) ∧ w.grownBy w' (some B) := by
  have hen : (encP nw).length = 1 := rfl
  have hov := Lib.run_overlaps_apart (P := Try.prog) w 67 4 62 Try.underlying67 1 sizeP ⟨Bv, 0, none⟩ ⟨B, (i + 1), none⟩ 1 1 (p + 1) (c - (i + 1)) hne 62 62 1 (c) (by simp [World.shape?, row, encP]) (by simp [World.shape?, hg, hsz]) (by omega) (by simp [World.frozen?, row]) (by simp [World.frozen?, row])
  rw [show p + 1 = i + 1 + p - i by omega] at hov
  have hcall : (callFunc 66 #[.slice (some ⟨Bv, 0, none⟩) 1 1, .slice (some ⟨B, (i + 1), none⟩) (i + 1 + p - i) (c - (i + 1))]).run Try.prog w = .ok (.value (.bool false)) w := by
    rw [@run_callFunc_extern Try.prog 66 _ (Extern.SlicesOverlaps.overlaps #[67, 67] #[4]) Try.func66 (by kernel_rfl) (by kernel_rfl) (by kernel_rfl) (by kernel_rfl), hov]
    rfl
  clear hov
  have hlk : (cur.toList.take ((i + 1 + p))).length = (i + 1 + p) := by simp; omega
  obtain ⟨rest, hrest⟩ : ∃ rest, rest = (cur.toList.take ((i + 1 + p))).drop (i) := ⟨_, rfl⟩
  have hlr : rest.length = (p + 1) := by rw [hrest, List.length_drop, hlk]; omega
  obtain ⟨row1, hrow1⟩ : ∃ row1, row1 = (cur.toList.take ((i + 1)) ++ rest ++ cur.toList.drop ((i + 1) + rest.length)).toArray := ⟨_, rfl⟩
  have hs1 : row1.size = c := by rw [hrow1]; simp; omega
  obtain ⟨W1, hW1⟩ : ∃ W1, W1 = w.drew.setRow B row1 := ⟨_, rfl⟩
  have hgd : w.drew.heap[B]? = some (.cells cur 62 (0, 0)) := hg
  obtain ⟨r1, hcp1⟩ : ∃ r, Hid (∀ ty, (Builtin.copy_ #[67, 67] ty #[.slice (some ⟨B, (i + 1), none⟩) (i + 1 + p - i) (c - (i + 1)), .slice (some ⟨B, i, none⟩) (i + 1 + p + 1 - i) (c - i)]).run Try.prog w.drew = .ok r W1) := by
    refine ⟨goInt ((Nat.min (i + 1 + p + 1 - i) (i + 1 + p - i) : Nat) : Int), fun ty => ?_⟩
    have hmn : Nat.min (i + 1 + p + 1 - i) (i + 1 + p - i) = p + 1 := by rw [show i + 1 + p + 1 - i = p + 2 by omega, show i + 1 + p - i = p + 1 by omega]; exact Nat.min_eq_right (by omega)
    have := run_copy_rowsP w.drew ty B ((i + 1)) (i + 1 + p - i) (c - (i + 1)) ⟨B, i, none⟩ (i + 1 + p + 1 - i) (c - i) cur rest hgd (by rw [hmn]; omega) (fun j u hj => by
      rw [Addr.add_lit]
      rw [hrest, List.getElem?_drop, List.getElem?_take] at hj
      split at hj
      · show w.cell? _ = _
        simpa [World.cell?, hg] using hj
      · cases hj) (by rw [hlr, hsz]; omega) (fun u hu => hone u (by rw [hrest] at hu; exact List.mem_of_mem_drop hu))
    rw [this, hW1, hrow1]
  have hg1 : W1.heap[B]? = some (.cells row1 62 (0, 0)) := by rw [hW1]; exact setRow_heap w.drew _ cur row1 _ _ hgd
  have hBv : W1.heap[Bv]? = some (.cells (encP nw).toArray 62 (0, 0)) := by rw [hW1, ← row]; exact (setRow_grown (w := w.drew) (B := B) row1).block Bv (lt_of_heap row) (fun e => hne (Option.some.inj e))
  obtain ⟨row2, hrow2⟩ : ∃ row2, row2 = (row1.toList.take (i) ++ (encP nw) ++ row1.toList.drop (i + (encP nw).length)).toArray := ⟨_, rfl⟩
  have hs2 : row2.size = c := by rw [hrow2]; simp; omega
  obtain ⟨W2, hW2⟩ : ∃ W2, W2 = W1.setRow B row2 := ⟨_, rfl⟩
  obtain ⟨r2, hcp2⟩ : ∃ r, Hid (∀ ty, (Builtin.copy_ #[67, 67] ty #[.slice (some ⟨B, i, none⟩) (i + 1 + p + 1 - i) (c - i), .slice (some ⟨Bv, 0, none⟩) 1 1]).run Try.prog W1 = .ok r W2) := by
    refine ⟨goInt ((Nat.min 1 (i + 1 + p + 1 - i) : Nat) : Int), fun ty => ?_⟩
    have hmn : Nat.min 1 (i + 1 + p + 1 - i) = 1 := by rw [show i + 1 + p + 1 - i = p + 2 by omega]; exact Nat.min_eq_left (by omega)
    have := run_copy_rowsP W1 ty B (i) (i + 1 + p + 1 - i) (c - i) ⟨Bv, 0, none⟩ 1 1 row1 (encP nw) hg1 (by rw [hmn]; rfl) (fun j u hj => by rw [Addr.add_lit, Nat.zero_add]; simpa [World.cell?, hBv] using hj) (by rw [hen, hs1]; omega) hone2
    rw [this, hW2, hrow2]
  have S := (show Hid _ from And.intro hg1 (And.intro hW1 (And.intro hW2 (And.intro hrow2 (And.intro hrow1 (And.intro hrest (And.intro hlr (And.intro hs1 (And.intro hs2 hsz)))))))))
  clear hg1 hW1 hW2 hrow2 hrow1 hrest hlr hs1 hs2 hBv hgd hone hone2 hg hsz row hlk
  have q1 : ((i : Int) == (i : Int) + 1 + (p : Int)) = false := by simp; omega
  have q2 : ¬ (c : Int) < (i : Int) + 1 + (p : Int) + 1 := by omega
  have q3 : (i : Int) ≤ (i : Int) + 1 + (p : Int) := by omega
  have q4 : ¬ c = i := by omega
  have q5 : ¬ c = i + 1 := by omega
  have qw : IntKind.i64.wrap ((i : Int) + 1) = (i : Int) + 1 := by rw [IntKind.wrap_i64]; omega
  have q6 : (0 : Int) ≤ (i : Int) + 1 := by omega
  have q7 : (i : Int) + 1 ≤ (i : Int) + 1 + (p : Int) + 1 := by omega
  have q8 : (i : Int) ≤ (i : Int) + 1 + (p : Int) + 1 := by omega
  have hc2 := hcp2.out
  go_enter Try.func49, Try.ntmps49
  go_wp2
  go_region_law (refine step_copy_eq rfl (.tmp 73) (.tmp 76) 67 67 rfl _ _ (by simp [Act.eval, Act.put]) (by simp [Act.eval, Act.put]) _ _ (hcp1.out _) ?_)
  go_wp2
  go_ret
  obtain ⟨hg1, hW1, hW2, hrow2, hrow1, hrest, hlr, hs1, hs2, hsz⟩ := S.out
  have hlc : cur.toList.length = c := by simpa using hsz
  have hl1 : (cur.toList.take ((i + 1))).length = (i + 1) := by rw [List.length_take]; omega
  have hl0 : (cur.toList.take (i)).length = i := by rw [List.length_take]; omega
  have t1 : row1.toList.take (i) = cur.toList.take (i) := by
    rw [hrow1, List.toList_toArray, List.append_assoc, List.take_append_of_le_length (by omega), List.take_take, Nat.min_eq_left (by omega)]
  have t2 : row1.toList.drop (i + 1) = rest ++ cur.toList.drop ((i + 1) + rest.length) := by
    rw [hrow1, List.toList_toArray, List.append_assoc]
    exact List.drop_left' (by omega)
  have g1 := setRow_grown (w := w.drew) (B := B) row1
  have g2 := setRow_grown (w := W1) (B := B) row2
  rw [← hW1] at g1
  rw [← hW2] at g2
  refine ⟨rfl, ⟨row2, ?_, hs2, ?_⟩, ⟨g2.os.trans g1.os, g2.tape.trans g1.tape, g2.output.trans g1.output, Nat.le_trans g1.size g2.size, fun k hk hne => (g2.block k (Nat.lt_of_lt_of_le hk g1.size) hne).trans (g1.block k hk hne)⟩⟩
  · rw [hW2]; exact setRow_heap W1 _ row1 row2 _ _ hg1
  · rw [hrow2, List.toList_toArray, t1, hen, t2, ← hrest, ← List.append_assoc]
    have hll : (cur.toList.take (i) ++ (encP nw) ++ rest).length = (i + 1 + p + 1) := by rw [List.length_append, List.length_append, hl0, hen, hlr]; omega
    rw [List.take_append_of_le_length (by omega), List.take_of_length_le (by omega)]

set_option maxRecDepth 100000 in
set_option maxHeartbeats 2000000 in
theorem Insert_lastP (fs : List Nat) (g cap B0 Bv : Nat) (nw : Nat) (w : World) (hown : w.ownsRow B0 62 1 (.slice (some ⟨g, 0, none⟩) fs.length cap) fs.length (encPs fs)) (hB0 : B0 ≤ w.heap.size)
    (hone2 : ∀ u ∈ (encP nw), u.oneCell' = true) (hn : fs.length < 1000000) (_hc0 : cap ≤ 9223372036854775807) (_hc1 : fs.length ≤ cap) (hv : ∀ i u, (encP nw)[i]? = some u → w.cell? ⟨Bv, i, none⟩ = some u) :
    Calls Try.prog 49 #[.slice (some ⟨g, 0, none⟩) fs.length cap, .int .i64 (fs.length : Int), .slice (some ⟨Bv, 0, none⟩) 1 1] w
      fun e w' => ∃ v', e = .returned v' ∧ w'.ownsRow B0 62 1 v' (fs.length + 1) (encPs fs ++ (encP nw)) ∧ w.grownBy w' (some g) ∧ (some g = v'.ownBlock ∨ ∃ g, v'.ownBlock = some g ∧ w.heap.size ≤ g) := by
  obtain ⟨i0, hi, hz0, hz1, hz2⟩ := info_parts infoP
  have HO := (show Hid _ from hown)
  have hnews : Hid (∀ j u, (encP nw)[j]? = some u → w.cell? ((⟨Bv, 0, none⟩ : Addr).add j) = some u) := fun j u hj => by rw [Addr.add_lit, Nat.zero_add]; exact hv j u hj
  have H1 := (show Hid _ from hone2)
  clear hown hv hone2
  go_enter Try.func49, Try.ntmps49
  go_wp2_with (first | (at_builtin; refine wpList_append_lies _ rfl (.tmp 23) (.tmp 24) 67 rfl B0 62 i0 _ 1 8 Try.underlying67 hi hz0 hz1 hz2 rfl (by decide) _ fs.length (encPs fs) rfl HO.out ⟨Bv, 0, none⟩ 1 1 (encP nw) rfl rfl hnews.out H1.out (by omega) (by unfold maxLen; omega) (by omega) hB0 _ rfl ?_; intro g' cap' w3 hown3 hgrow3 hlie hlt3; have Y := (show Hid _ from And.intro hown3 (And.intro hgrow3 hlie)); clear hown3 hgrow3 hlie))
  all_goals
    go_ret
    obtain ⟨hown3, hgrow3, hlie⟩ := Y.out
    refine ⟨_, rfl, hown3, hgrow3, ?_⟩
    rcases hlie with e | e
    · exact .inl e
    · exact .inr ⟨g', rfl, by omega⟩

/-- what is inserted into fields that one owns. -/
theorem Insert_ownP (fs : List Nat) (s : Value) (B0 Bv j : Nat) (nw : Nat) (w : World) (hown : w.ownsRow B0 62 1 s fs.length (encPs fs)) (hB0 : B0 ≤ w.heap.size)
    (hone : ∀ u ∈ encPs fs, u.oneCell' = true) (hone2 : ∀ u ∈ (encP nw), u.oneCell' = true) (hj : j ≤ fs.length) (hn : fs.length < 1000000) (hne : s.ownBlock ≠ some Bv) (row : w.heap[Bv]? = some (.cells (encP nw).toArray 62 (0, 0))) :
    Calls Try.prog 49 #[s, .int .i64 (j : Int), .slice (some ⟨Bv, 0, none⟩) 1 1] w
      fun e w' => ∃ v', e = .returned v' ∧ w'.ownsRow B0 62 1 v' (fs.length + 1) (encPs (fs.take j ++ nw :: fs.drop j)) ∧ w.grownBy w' s.ownBlock ∧ (s.ownBlock = v'.ownBlock ∨ ∃ g, v'.ownBlock = some g ∧ w.heap.size ≤ g) := by
  have hv : ∀ i u, (encP nw)[i]? = some u → w.cell? ⟨Bv, i, none⟩ = some u := fun i u hi => by simpa [World.cell?, row] using hi
  have hsplit : encPs (fs.take j ++ nw :: fs.drop j) = (encPs fs).take (j) ++ (encP nw) ++ (encPs fs).drop (j) := by
    rw [encPs_append, encPs_take, encPs_drop, List.append_assoc]; rfl
  have hfin : ∀ (r : Option Nat) (w' : World) (v' : Value) (m : Nat) (xs : List Value), RowAt (fun k => k = w.heap.size) w' 62 1 v' m xs → Below w.heap.size w w' → w'.ownsRow B0 62 1 v' m xs ∧ w.grownBy w' r := fun r w' v' m xs h hb =>
    ⟨ownsRow_move (fun b hb' _ => ⟨by have := h.2.2 b hb'; omega, rfl⟩) h.1, ⟨hb.os, hb.tape, hb.output, hb.size, fun k hk _ => hb.block k hk⟩⟩
  rw [hsplit]
  rcases own_ofP hown with ⟨hl, ⟨rfl, hz⟩ | ⟨g, cap, cur, rfl, hBg, hg, hnc, hcm, hsz, htk⟩⟩
  · have hf : fs = [] := List.eq_nil_of_length_eq_zero hz
    subst hf
    obtain rfl : j = 0 := by simpa using hj
    refine (Insert_nilP nw Bv w hv).mono ?_
    rintro e w' ⟨v', rfl, hr, hb⟩
    obtain ⟨o1, o2⟩ := hfin none w' v' _ _ hr hb
    refine ⟨v', rfl, by simpa [encPs] using o1, o2, .inr ?_⟩
    obtain ⟨b, c, rfl, _, hb2, _⟩ := hr.cells (by omega)
    exact ⟨b, rfl, by omega⟩
  · have hgv : g ≠ Bv := fun e => hne (by rw [e]; rfl)
    have hcap9 : cap ≤ 9223372036854775807 := Nat.le_trans hcm (by decide)
    by_cases he : j = fs.length
    · subst he
      have e1 : (encPs fs).take (fs.length) = encPs fs := List.take_of_length_le (by omega)
      have e2 : (encPs fs).drop (fs.length) = [] := List.drop_of_length_le (by omega)
      rw [e1, e2, List.append_nil]
      exact Insert_lastP fs g cap B0 Bv nw w (own_toP ⟨hl, .inr ⟨g, cap, cur, rfl, hBg, hg, hnc, hcm, hsz, htk⟩⟩) hB0 hone2 hn hcap9 hnc hv
    · obtain ⟨p, hp⟩ : ∃ p, fs.length = j + 1 + p := ⟨fs.length - (j + 1), by omega⟩
      by_cases hfull : cap = fs.length
      · subst hfull
        have hcur : cur.toList = encPs fs := by rw [← htk]; exact (List.take_of_length_le (by simp; omega)).symm
        rw [hp, ← hcur]
        refine (Insert_midP g Bv j p nw cur w hg (by rw [hsz, hp]) (by rw [hcur]; exact hone) hone2 (by omega) hv).mono ?_
        rintro e w' ⟨v', rfl, hr, hb⟩
        obtain ⟨o1, o2⟩ := hfin (some g) w' v' _ _ hr hb
        refine ⟨v', rfl, o1, o2, .inr ?_⟩
        obtain ⟨b, c, rfl, _, hb2, _⟩ := hr.cells (by omega)
        exact ⟨b, rfl, by omega⟩
      · rw [hp] at htk hl ⊢
        refine (Insert_inP g Bv j p cap nw cur w hg hsz (by omega) hcap9 (by rw [htk]; exact hone) hone2 (by omega) (fun e => hgv e.symm) row).mono ?_
        rintro e w' ⟨rfl, ⟨cur', c1, c2, c3⟩, hgr⟩
        have htj : cur.toList.take (j) = (encPs fs).take (j) := by rw [← htk, List.take_take, Nat.min_eq_left (by omega)]
        rw [htk, htj] at c3
        have hlj : ((encPs fs).take (j)).length = j := by rw [List.length_take]; omega
        refine ⟨_, rfl, own_toP ⟨?_, .inr ⟨g, cap, cur', rfl, hBg, c1, by omega, hcm, c2, c3⟩⟩, hgr, .inl rfl⟩
        rw [List.length_append, List.length_append, hlj, List.length_drop, hl, show (encP nw).length = 1 from rfl]
        omega
end Go.Proofs.Ytoaekmighinmhaa

namespace Go.Proofs.Ytoaekmighinmhaa
open Go.RowKit

section
variable {w W1 w2 : World} {t : Nd}
theorem own_ne {base e size m H : Nat} {v : Value} {xs : List Value} (h : w.ownsRow base e size v m xs) (hH : w.heap.size ≤ H) : v.ownBlock ≠ some H := fun e => by
  have := own_lt h (a := H) (by rw [vc_of e]; omega)
  omega
theorem insE_any (j H : Nat) (x : En) (h : Sh w t) (h1 : ∀ a, sc a t ≤ 1) (hb : Below w.heap.size w W1) (hH : w.heap.size ≤ H) (hr : W1.heap[H]? = some (.cells #[.string x.1, .int .i64 x.2] 34 (0, 0))) (hj : j ≤ t.es.length) (hn : t.es.length < 1000000) :
    Calls Try.prog 34 #[t.s, .int .i64 j, .slice (some ⟨H, 0, none⟩) 1 1] W1
      fun e w2 => ∃ a c, e = .returned (.slice a (t.es.length + 1) c) ∧ Ev1 w t (w2.setCell ⟨t.b, 0, none⟩ (.slice a (t.es.length + 1) c)) { t with s := .slice a (t.es.length + 1) c, es := t.es.take j ++ x :: t.es.drop j } ∧ w2.heap[t.b]? = w.heap[t.b]? ∧ W1.heap.size ≤ w2.heap.size ∧ ∀ a, a < w.heap.size → vc a t.s = 0 → w2.heap[a]? = w.heap[a]? := by
  have hown := own_keep (W' := W1) h.es fun a ha => hb.block a (own_lt h.es ha)
  have hbl := lt_of_heap h.node
  have hsb : vc t.b t.s = 0 := by have := h1 t.b; unfold sc at this; rw [if_pos rfl] at this; omega
  refine (Insert_ownE t.es t.s 0 H j x W1 hown (Nat.zero_le _) (encEns_one _) (encEn_one x) hj hn (own_ne h.es hH) hr).mono ?_
  rintro e w2 ⟨v', rfl, hr2, hg, hv⟩
  obtain ⟨a, c, rfl⟩ := slice_of_row hr2
  have hl : (t.es.take j ++ x :: t.es.drop j).length = t.es.length + 1 := by simp; omega
  refine ⟨a, c, rfl, ev1_putS h h1 hb hg (by rw [hl]; exact hr2) ?_, ?_, hg.size, fun a ha hv => (hg.block a (Nat.lt_of_lt_of_le ha hb.size) fun e => by have := vc_of e.symm; omega).trans (hb.block a ha)⟩
  · rcases hv with hv | ⟨g, hv, hgl⟩
    · exact .inl hv
    · exact .inr ⟨g, hv, Nat.le_trans hb.size hgl⟩
  · rw [hg.block t.b (Nat.lt_of_lt_of_le hbl hb.size) (fun e => by have := vc_of e.symm; omega), hb.block t.b hbl]
theorem insP_any (j H : Nat) (x : Nd) (h : Sh w t) (h1 : ∀ a, sc a t ≤ 1) (hb : Below w.heap.size w W1) (hH : w.heap.size ≤ H) (hr : W1.heap[H]? = some (.cells #[.pointer (some ⟨x.b, 0, none⟩)] 62 (0, 0))) (hj : j ≤ t.kids.length) (hn : t.kids.length < 1000000) :
    Calls Try.prog 49 #[t.k, .int .i64 j, .slice (some ⟨H, 0, none⟩) 1 1] W1
      fun e w2 => ∃ a c, e = .returned (.slice a (t.kids.length + 1) c) ∧ Ev1 w t (w2.setCell ⟨t.b, 1, none⟩ (.slice a (t.kids.length + 1) c)) { t with k := .slice a (t.kids.length + 1) c, kids := t.kids.take j ++ x :: t.kids.drop j } ∧ w2.heap[t.b]? = w.heap[t.b]? ∧ W1.heap.size ≤ w2.heap.size ∧ ∀ a, a < w.heap.size → vc a t.k = 0 → w2.heap[a]? = w.heap[a]? := by
  have hown := own_keep (W' := W1) h.ks fun a ha => hb.block a (own_lt h.ks ha)
  have hbl := lt_of_heap h.node
  have hsb : vc t.b t.k = 0 := by have := h1 t.b; unfold sc at this; rw [if_pos rfl] at this; omega
  have hlm : (t.kids.map Nd.b).length = t.kids.length := List.length_map _
  refine (Insert_ownP (t.kids.map Nd.b) t.k 0 H j x.b W1 (by rw [hlm]; exact hown) (Nat.zero_le _) (encPs_one _) (encP_one x.b) (by rw [hlm]; exact hj) (by rw [hlm]; exact hn) (own_ne h.ks hH) hr).mono ?_
  rintro e w2 ⟨v', rfl, hr2, hg, hv⟩
  rw [hlm] at hr2
  obtain ⟨a, c, rfl⟩ := slice_of_row hr2
  have hl : (t.kids.take j ++ x :: t.kids.drop j).length = t.kids.length + 1 := by simp; omega
  refine ⟨a, c, rfl, ev1_putK h h1 hb hg (by rw [hl, List.map_append, List.map_cons, List.map_take, List.map_drop]; exact hr2) (fun hc => by rw [hc] at hl; cases hl) ?_, ?_, hg.size, fun a ha hv => (hg.block a (Nat.lt_of_lt_of_le ha hb.size) fun e => by have := vc_of e.symm; omega).trans (hb.block a ha)⟩
  · rcases hv with hv | ⟨g, hv, hgl⟩
    · exact .inl hv
    · exact .inr ⟨g, hv, Nat.le_trans hb.size hgl⟩
  · rw [hg.block t.b (Nat.lt_of_lt_of_le hbl hb.size) (fun e => by have := vc_of e.symm; omega), hb.block t.b hbl]
theorem appE_ev {g n cap : Nat} {l : List En} (h : Sh w t) (h1 : ∀ a, sc a t ≤ 1) (hb : Below w.heap.size w W1) (hg : W1.grownBy w2 t.s.ownBlock) (hn : n = (t.es ++ l).length) (hr : w2.ownsRow 0 34 2 (.slice (some ⟨g, 0, none⟩) n cap) n (encEns t.es ++ encEns l)) (hv : t.s.ownBlock = some g ∨ g = W1.heap.size) :
    Ev1 w t (w2.setCell ⟨t.b, 0, none⟩ (.slice (some ⟨g, 0, none⟩) n cap)) { t with s := .slice (some ⟨g, 0, none⟩) n cap, es := t.es ++ l } ∧ w2.heap[t.b]? = w.heap[t.b]? := by
  have hbl := lt_of_heap h.node
  have hsb : vc t.b t.s = 0 := by have := h1 t.b; unfold sc at this; rw [if_pos rfl] at this; omega
  refine ⟨ev1_putS h h1 hb hg (by rw [← hn, encEns_append]; exact hr) ?_, ?_⟩
  · rcases hv with hv | hv
    · exact .inl hv
    · exact .inr ⟨g, rfl, by rw [hv]; exact hb.size⟩
  · rw [hg.block t.b (Nat.lt_of_lt_of_le hbl hb.size) (fun e => by have := vc_of e.symm; omega), hb.block t.b hbl]
theorem appP_ev {g n cap : Nat} {l : List Nd} (h : Sh w t) (h1 : ∀ a, sc a t ≤ 1) (hb : Below w.heap.size w W1) (hg : W1.grownBy w2 t.k.ownBlock) (hn : n = (t.kids ++ l).length) (hn0 : 0 < n) (hr : w2.ownsRow 0 62 1 (.slice (some ⟨g, 0, none⟩) n cap) n (encPs (t.kids.map Nd.b) ++ encPs (l.map Nd.b))) (hv : t.k.ownBlock = some g ∨ g = W1.heap.size) :
    Ev1 w t (w2.setCell ⟨t.b, 1, none⟩ (.slice (some ⟨g, 0, none⟩) n cap)) { t with k := .slice (some ⟨g, 0, none⟩) n cap, kids := t.kids ++ l } ∧ w2.heap[t.b]? = w.heap[t.b]? := by
  have hbl := lt_of_heap h.node
  have hsb : vc t.b t.k = 0 := by have := h1 t.b; unfold sc at this; rw [if_pos rfl] at this; omega
  refine ⟨ev1_putK h h1 hb hg (by rw [← hn, List.map_append, encPs_append]; exact hr) (fun hc => by rw [hc] at hn; simp at hn; omega) ?_, ?_⟩
  · rcases hv with hv | hv
    · exact .inl hv
    · exact .inr ⟨g, rfl, by rw [hv]; exact hb.size⟩
  · rw [hg.block t.b (Nat.lt_of_lt_of_le hbl hb.size) (fun e => by have := vc_of e.symm; omega), hb.block t.b hbl]
theorem Sh.kid2 {i : Nat} {l r : Nd} (h : Sh w t) (hl : t.kids[i]? = some l) (hr : t.kids[i + 1]? = some r) : ∃ B c, t.kids.length ≤ c ∧ c ≤ 9223372036854775807 ∧ w.cell? ⟨t.b, 1, none⟩ = some (.slice (some ⟨B, 0, none⟩) t.kids.length c) ∧ w.cell? ⟨B, i, none⟩ = some (.pointer (some ⟨l.b, 0, none⟩)) ∧ w.cell? ⟨B, i + 1, none⟩ = some (.pointer (some ⟨r.b, 0, none⟩)) := by
  obtain ⟨B, c, e1, h1, h2, h3, h4, -⟩ := h.kidv hl
  obtain ⟨B', c', e2, -, -, -, h5, -⟩ := h.kidv hr
  rw [e1] at e2
  simp only [Value.slice.injEq, Option.some.injEq, Addr.mk.injEq, true_and, and_true] at e2
  rw [← e2.1] at h5
  exact ⟨B, c, h1, h2, h3, h4, h5⟩
/-- a node that is new. -/
theorem new_node {v : Value} {es : List En} {W : World} (hr : W.ownsRow 0 34 2 v es.length (encEns es)) : Sh (W.alloc (.cells #[v, .slice none 0 0] 69)) ⟨W.heap.size, v, .slice none 0 0, es, []⟩ :=
  ⟨heap_alloc_new _ _, hr.alloc _, World.ownsRow_nil _ _ _ _, fun _ => rfl⟩
end
end Go.Proofs.Ytoaekmighinmhaa

namespace Go.Proofs.Ytoaekmighinmhaa
open Go.RowKit

/-- what is there behind split: three nodes where two were. -/
def SplitV (w : World) (t c : Nd) (i : Nat) (w' : World) : Prop :=
  ∃ (s' k' sl kl : Value) (R : Nd) (m : En), c.es[2]? = some m ∧ R.es = c.es.drop 3 ∧ R.kids = c.kids.drop 3 ∧
    Stp w [t, c] w' [{ t with s := s', k := k', es := t.es.take i ++ m :: t.es.drop i, kids := t.kids.take (i + 1) ++ R :: t.kids.drop (i + 1) }, { c with s := sl, k := kl, es := c.es.take 2, kids := c.kids.take 3 }, R]
theorem vc_at (a g n c : Nat) : vc a (.slice (some ⟨g, 0, none⟩) n c) = if a = g then 1 else 0 := by
  unfold vc
  by_cases h : a = g
  · rw [if_pos h, if_pos (by rw [h]; rfl)]
  · rw [if_neg h]
    show (if some g = some a then 1 else 0) = 0
    rw [if_neg (fun e => h (Option.some.inj e).symm)]
theorem ss_two (a : Nat) (t c : Nd) : ss a [t, c] = sc a t + sc a c := by rw [ss_cons, ss_cons, ss_nil]; omega
theorem ss_three (a : Nat) (t c r : Nd) : ss a [t, c, r] = sc a t + sc a c + sc a r := by rw [ss_cons, ss_cons, ss_cons, ss_nil]; omega
theorem sc_b (t : Nd) : 1 ≤ sc t.b t := by unfold sc; rw [if_pos rfl]; omega
theorem put_below {w : World} {R : Nd} {v : Value} {ks : List Nd} (h : Sh w R) (h1 : ∀ a, sc a R ≤ 1) (hr : w.ownsRow 0 62 1 v ks.length (encPs (ks.map Nd.b))) (hn : ks ≠ []) (hv : vc R.b v = 0) : Sh (w.setCell ⟨R.b, 1, none⟩ v) { R with k := v, kids := ks } := by
  have hset : ∀ a, a ≠ R.b → (w.setCell ⟨R.b, 1, none⟩ v).heap[a]? = w.heap[a]? := fun a ha => Below.heap_setCell _ _ _ _ ha
  refine ⟨?_, ?_, ?_, fun hc => absurd hc hn⟩
  · rw [heap_setCell_at h.node]; rfl
  · refine own_keep h.es fun a ha => hset a fun e => ?_
    have ha : vc a R.s ≠ 0 := ha
    have := h1 R.b
    unfold sc at this
    rw [if_pos rfl] at this
    rw [e] at ha
    omega
  · exact own_keep hr fun a ha => hset a fun e => by rw [e] at ha; exact ha hv

theorem split_none (t c : Nd) (i : Nat) (w : World) (hS : St w [t, c]) (hc : t.kids[i]? = some c) (h5 : c.es.length ≤ 4) (_hn2 : t.kids.length ≤ 1000) :
    Calls Try.prog 35 #[.pointer (some ⟨t.b, 0, none⟩), .int .i64 i] w fun e w' => e = .returned (.tuple #[]) ∧ w' = w := by
  obtain ⟨B, d, -, hd1, hd2, c1, ck, -⟩ := (hS.sh t (by simp)).kidv hc
  obtain ⟨sa, sc, -, -, -, -, l0, -, -⟩ := (hS.sh c (by simp)).view
  have hi := (List.getElem?_eq_some_iff.1 hc).1
  have zi : (i : Int) < (t.kids.length : Int) := by omega
  have z5 : (c.es.length : Int) ≤ 4 := by omega
  generalize t.kids.length = m at *
  generalize c.es.length = l at *
  clear hS hc
  go_enter Try.func35, Try.ntmps35
  go_wp2
  exact bodyPost_ret (v := .tuple #[]) (by simp [results, Try.results35, go_sem]) rfl ⟨rfl, rfl⟩
end Go.Proofs.Ytoaekmighinmhaa

namespace Go.Proofs.Ytoaekmighinmhaa
open Go.RowKit

/-- what is there behind turnRight: the entry in the midst is another one, the left node has one less, the right one has one more. -/
def TurnR (w : World) (t l r : Nd) (i : Nat) (w' : World) : Prop :=
  ∃ (sl kl sr kr : Value) (m x : En) (le : List En) (lk rk : List Nd), t.es[i]? = some m ∧ l.es = le ++ [x] ∧ ((l.kids = [] ∧ r.kids = [] ∧ lk = [] ∧ rk = []) ∨ ∃ y, l.kids = lk ++ [y] ∧ rk = y :: r.kids) ∧
    Stp w [t, l, r] w' [{ t with es := t.es.set i x }, { l with s := sl, k := kl, es := le, kids := lk }, { r with s := sr, k := kr, es := m :: r.es, kids := rk }]
/-- what is there behind turnLeft. -/
def TurnL (w : World) (t l r : Nd) (i : Nat) (w' : World) : Prop :=
  ∃ (sl kl sr kr : Value) (m x : En) (re : List En) (lk rk : List Nd), t.es[i]? = some m ∧ r.es = x :: re ∧ ((l.kids = [] ∧ r.kids = [] ∧ lk = [] ∧ rk = []) ∨ ∃ y, r.kids = y :: rk ∧ lk = l.kids ++ [y]) ∧
    Stp w [t, l, r] w' [{ t with es := t.es.set i x }, { l with s := sl, k := kl, es := l.es ++ [m], kids := lk }, { r with s := sr, k := kr, es := re, kids := rk }]
/-- what is there behind join: one node where two were. -/
def JoinV (w : World) (t l r : Nd) (i : Nat) (w' : World) : Prop :=
  ∃ (s k sl kl : Value) (m : En), t.es[i]? = some m ∧
    Stp w [t, l, r] w' [{ t with s := s, k := k, es := t.es.take i ++ t.es.drop (i + 1), kids := t.kids.take (i + 1) ++ t.kids.drop (i + 1 + 1) }, { l with s := sl, k := kl, es := l.es ++ [m] ++ r.es, kids := l.kids ++ r.kids }]
end Go.Proofs.Ytoaekmighinmhaa

namespace Go.Proofs.Ytoaekmighinmhaa
open Go.RowKit

theorem Stp.two {w w' : World} {ts : List Nd} {a b c : Nd} (h : Stp w ts w' [a, b, c]) : Stp w ts w' [a, b] := by
  refine ⟨⟨fun t ht => h.st.sh t ?_, fun x => ?_⟩, h.chg, fun x hx => ?_⟩
  · rcases List.mem_cons.1 ht with rfl | ht
    · simp
    · rw [List.mem_singleton.1 ht]; simp
  · have := h.st.one x
    rw [ss_three] at this
    rw [ss_two]; omega
  · have := h.cnt x hx
    rw [ss_three] at this
    rw [ss_two]; omega
end Go.Proofs.Ytoaekmighinmhaa
