/-
  The law's Entry by its contract. No conditions.
  slices.Insert at entries that a caller owns: without room, and with it, in the midst and at the end. Conditions: as stated.
-/
import Derived.Test.YtoaekmighinmhaaU4
import Derived.Test.YtoaekmighinmhaaU5
import Derived.Test.YtoaekmighinmhaaU2
namespace Go.Proofs.Ytoaekmighinmhaa
open Go.RowKit

/-- a byte as a text. -/
theorem byte_str (W : World) (b : Nat) (hb : W.heap.size = b) (k : Int) (h0 : 0 ≤ k) (h1 : k < 256) : (convert 54 9 (.slice (some ⟨b, 0, none⟩) 1 1)).run Try.prog (W.alloc (.cells #[.int .u8 k] 5)) = .ok (.string ⟨#[UInt8.ofNat k.toNat]⟩) (W.alloc (.cells #[.int .u8 k] 5)) := by
  subst hb
  refine run_convert_bytes_back _ 54 9 5 ⟨W.heap.size, 0, none⟩ 1 [UInt8.ofNat k.toNat] Try.underlying54 Try.underlying5 Try.underlying9 fun j hj => ?_
  have hj0 : j = 0 := by simp at hj; exact hj
  subst hj0
  have e : (UInt8.ofNat k.toNat).toNat = k.toNat := by rw [UInt8.toNat_ofNat']; omega
  have e2 : ((([UInt8.ofNat k.toNat])[0]'hj).toNat : Int) = k := by
    show ((UInt8.ofNat k.toNat).toNat : Int) = k
    rw [e]; omega
  rw [e2]
  exact World.news_of_block (heap_alloc_new W (.cells #[.int .u8 k] 5 (0, 0))) 0 _ rfl
/-- the entry of a deed. -/
def entA (k i : Int) : En := (⟨#[UInt8.ofNat (97 + k % 6).toNat]⟩, i % 24 - 3)
set_option maxRecDepth 100000 in
theorem Entry_any (a k i : Int) (hk : 0 ≤ k ∧ k < 256) (hi : 0 ≤ i ∧ i < 256) (w : World) : Calls Try.prog 14 #[.agg #[.int .u8 a, .int .u8 k, .int .u8 i]] w fun r w' => r = .returned (.agg #[.string (entA k i).1, .int .i64 (entA k i).2]) ∧ Below w.heap.size w w' := by
  obtain ⟨W0, hW0⟩ : ∃ W0, w.alloc (.cells #[.int .u8 a, .int .u8 k, .int .u8 i] 38) = W0 := ⟨_, rfl⟩
  have r0 : W0.heap[w.heap.size]? = some (.cells #[.int .u8 a, .int .u8 k, .int .u8 i] 38 (0, 0)) := by rw [← hW0]; exact heap_alloc_new _ _
  have hb0 : Below w.heap.size w W0 := by rw [← hW0]; exact (Below.refl _ _).alloc (Nat.le_refl _) _
  have hs0 : W0.heap.size = w.heap.size + 1 := by rw [← hW0]; simp
  obtain ⟨W1, hW1⟩ : ∃ W1, W0.alloc (.cells #[.string ⟨#[]⟩, .int .i64 0] 34) = W1 := ⟨_, rfl⟩
  have r1 : W1.heap[W0.heap.size]? = some (.cells #[.string ⟨#[]⟩, .int .i64 0] 34) := by rw [← hW1]; exact heap_alloc_new _ _
  have hb1 : Below W0.heap.size W0 W1 := by rw [← hW1]; exact (Below.refl _ _).alloc (Nat.le_refl _) _
  have hb : Below w.heap.size w W1 := hb0.trans (hb1.mono (by omega))
  have r0' := (hb1.block _ (by omega)).trans r0
  have c1 : W1.cell? ⟨w.heap.size, 1, none⟩ = some (.int .u8 k) := by simp [World.cell?, r0']
  have c2 : W1.cell? ⟨w.heap.size, 2, none⟩ = some (.int .u8 i) := by simp [World.cell?, r0']
  obtain ⟨q0, q1, qf, hlt⟩ := row2_of r1
  have hcv := byte_str W1 _ rfl (97 + k % 6) (by omega) (by omega)
  obtain ⟨W2, hW2⟩ : ∃ W2, W1.alloc (.cells #[.int .u8 (97 + k % 6)] 5) = W2 := ⟨_, rfl⟩
  have hb2 : Below W1.heap.size W1 W2 := by rw [← hW2]; exact (Below.refl _ _).alloc (Nat.le_refl _) _
  have hs2 : W2.heap.size = W1.heap.size + 1 := by rw [← hW2]; simp
  have hs1 : W1.heap.size = W0.heap.size + 1 := by rw [← hW1]; simp
  have p2 := (hb2.cell (p := ⟨w.heap.size, 2, none⟩) (by show w.heap.size < _; omega)).trans c2
  obtain ⟨z0, z1, zf, zlt⟩ := row2_of ((hb2.block _ hlt).trans r1)
  have hbb := hb.trans (hb2.mono hb.size)
  rw [hW2, hs1, hs0] at hcv
  rw [hs0] at z0 z1 zf zlt
  have hsb : w.heap.size ≤ W0.heap.size := by omega
  clear r0 r0' hb0 hb1 r1 hb hb2
  go_enter Try.func14, Try.ntmps14
  go_wp2
  refine bodyPost_ret (v := .agg #[.string (entA k i).1, .int .i64 (entA k i).2]) (by simp [results, Try.results14, go_sem, z0, z1, entA]) rfl ⟨rfl, ?_⟩
  exact (hbb.setCell (by show w.heap.size ≤ w.heap.size + 1; omega) _).setCell (by show w.heap.size ≤ w.heap.size + 1; omega) _
end Go.Proofs.Ytoaekmighinmhaa

namespace Go.Proofs.Ytoaekmighinmhaa
open Go.RowKit

theorem run_copy_rowsE (w : World) (ty g o dLen dCap : Nat) (a : Addr) (sLen sCap : Nat) (cur : Array Value) (cs : List Value)
    (hg : w.heap[g]? = some (.cells cur 34 (0, 0))) (hn : cs.length = Nat.min sLen dLen * 2)
    (hsrc : ∀ j v, cs[j]? = some v → w.cell? (a.add j) = some v) (hfit : o + cs.length ≤ cur.size) (h1 : ∀ v ∈ cs, v.oneCell' = true) :
    (Builtin.copy_ #[25, 25] ty #[.slice (some ⟨g, o, none⟩) dLen dCap, .slice (some a) sLen sCap]).run Try.prog w =
      .ok (goInt (Nat.min sLen dLen)) (w.setRow g (cur.toList.take o ++ cs ++ cur.toList.drop (o + cs.length)).toArray) := by
  obtain ⟨j0, hi0, hz0, hz1, hz2⟩ := info_parts infoE
  have hl := run_firstCells_some (P := Try.prog) w 2 (Nat.min sLen dLen) a sLen sCap cs (by omega) hsrc
  have hst := run_storeCells_at Try.prog g o 34 cs 0 cur w hg (by simpa using hfit) h1
  simp only [Nat.add_zero] at hst
  simp [Builtin.copy_, run_underlying Try.underlying25, Builtin.lenOf, sizeOf, typeInfo, hi0, hz1, hl, hst]

set_option maxHeartbeats 2000000 in
theorem Insert_nilE (nw : En) (Bv : Nat) (w : World) (hv : ∀ j u, (encEn nw)[j]? = some u → w.cell? ⟨Bv, j, none⟩ = some u) :
    Calls Try.prog 34 #[.slice none 0 0, .int .i64 0, .slice (some ⟨Bv, 0, none⟩) 1 1] w
      fun e w' => ∃ v', e = .returned v' ∧ RowAt (fun k => k = w.heap.size) w' 34 2 v' 1 (encEn nw) ∧ Below w.heap.size w w' := by
  obtain ⟨j0, hi0, hz0, hz1, hz2⟩ := info_parts infoE
  obtain ⟨gc, row0, W1, hge, hle, hs0, ht0, hW1, happ⟩ : ∃ (gc : Nat) (row0 : Array Value) (W1 : World), 1 ≤ gc ∧ gc ≤ maxLen ∧ row0.size = gc * 2 ∧ row0.toList.take (1 * 2) = (encEn nw) ∧ W1 = w.drew.alloc (.cells row0 34) ∧ Hid (∀ ty, (Builtin.append_ #[25, 25] ty #[.slice none 0 0, .slice (some ⟨Bv, 0, none⟩) 1 1]).run Try.prog w = .ok (.slice (some ⟨w.heap.size, 0, none⟩) 1 gc) W1) := by
    have hr := fun ty => run_append_nil (P := Try.prog) w 25 ty 34 j0 _ Try.underlying25 hi0 hz0 ⟨Bv, 0, none⟩ 1 1 (encEn nw) (by rw [hz1]; rfl) (fun j v h => by rw [Addr.add_lit, Nat.zero_add]; exact hv j v h) (by omega) (by omega) (by rw [hz2]; omega)
    refine ⟨_, _, _, grownCap_ge _ _ _ _, grownCap_le_maxLen _ _ _ _ (by unfold maxLen; omega), ?_, ?_, rfl, hr⟩
    · have := grownCap_ge w 1 0 34
      simp only [Array.size_append, List.size_toArray, size_zeroCells]
      rw [show (Value.agg #[Value.string ⟨#[]⟩, .int .i64 0]).cells.size = 2 from rfl, show (encEn nw).length = 2 from rfl]
      omega
    · simp only [Array.toList_append]
      rw [show 1 * 2 = (encEn nw).length from rfl]
      exact List.take_left
  have S := (show Hid _ from And.intro hle (And.intro hs0 (And.intro ht0 hW1)))
  clear hv hle hs0 ht0 hW1 hi0 hz0 hz1 hz2
  go_enter Try.func34, Try.ntmps34
  go_wp2_with (first | (at_builtin; refine Lib.wpList_append_run _ rfl (.tmp 23) (.tmp 24) _ _ rfl _ _ rfl rfl _ _ (happ.out _) ?_))
  go_ret
  obtain ⟨hle, hs0, ht0, hW1⟩ := S.out
  refine ⟨.slice (some ⟨w.heap.size, 0, none⟩) 1 gc, rfl, ⟨own_toE ⟨rfl, .inr ⟨w.heap.size, gc, row0, rfl, Nat.zero_le _, ?_, by omega, hle, hs0, ht0⟩⟩, by omega, fun b hb => by cases hb; rfl⟩, ?_⟩
  · rw [hW1]; exact heap_alloc_new w.drew _
  · rw [hW1]; exact ((Below.refl _ _).drew).alloc (Nat.le_refl _) _

set_option maxHeartbeats 2000000 in
theorem Insert_midE (B Bv i p : Nat) (nw : En) (cur : Array Value) (w : World) (hg : w.heap[B]? = some (.cells cur 34 (0, 0))) (hsz : cur.size = (i + 1 + p) * 2) (hone : ∀ u ∈ cur.toList, u.oneCell' = true) (hone2 : ∀ u ∈ (encEn nw), u.oneCell' = true) (hn : i + 1 + p < 1000000)
    (hv : ∀ j u, (encEn nw)[j]? = some u → w.cell? ⟨Bv, j, none⟩ = some u) :
    Calls Try.prog 34 #[.slice (some ⟨B, 0, none⟩) (i + 1 + p) (i + 1 + p), .int .i64 (i : Int), .slice (some ⟨Bv, 0, none⟩) 1 1] w
      fun e w' => ∃ v', e = .returned v' ∧ RowAt (fun k => k = w.heap.size) w' 34 2 v' (i + 1 + p + 1) (cur.toList.take (i * 2) ++ (encEn nw) ++ cur.toList.drop (i * 2)) ∧ Below w.heap.size w w' := by
  obtain ⟨j0, hi0, hz0, hz1, hz2⟩ := info_parts infoE
  have hBl := lt_of_heap hg
  have hl0 : (cur.toList.take (i * 2)).length = i * 2 := by simp; omega
  obtain ⟨gc, row0, W1, hge, hle, hs0, ht0, hW1, happ⟩ : ∃ (gc : Nat) (row0 : Array Value) (W1 : World), i + (p + 2) ≤ gc ∧ gc ≤ maxLen ∧ row0.size = gc * 2 ∧ row0.toList.take (i * 2) = cur.toList.take (i * 2) ∧ W1 = w.drew.alloc (.cells row0 34) ∧ Hid (∀ ty, (Builtin.append_ #[25, 3] ty #[.slice (some ⟨B, 0, none⟩) i (i + 1 + p), .int .i64 ((p + 2 : Nat) : Int)]).run Try.prog w = .ok (.slice (some ⟨w.heap.size, 0, none⟩) (i + (p + 2)) gc) W1) := by
    have hr := fun ty => Lib.run_append_grow_zeros (P := Try.prog) w 25 3 ty 34 j0 _ .i64 .i64 Try.underlying25 Try.underlying3 hi0 hz0 (some ⟨B, 0, none⟩) i (i + 1 + p) (cur.toList.take (i * 2)) (by
      rw [hz1]
      refine run_firstCells_some (P := Try.prog) w.drew 2 i ⟨B, 0, none⟩ i (i + 1 + p) _ (by omega) fun j v hj => ?_
      rw [Addr.add_lit, Nat.zero_add]
      rw [List.getElem?_take] at hj
      split at hj
      · show w.cell? _ = _
        simpa [World.cell?, hg] using hj
      · cases hj) (p + 2) (by omega) (by rw [hz1]; omega) (by omega) (by omega) (by rw [hz2]; omega) (by rw [hz2]; exact growslice_fits (by omega) (by omega))
    refine ⟨_, _, _, grownCap_ge _ _ _ _, grownCap_le_maxLen _ _ _ _ (by unfold maxLen; omega), ?_, ?_, rfl, hr⟩
    · have := grownCap_ge w (i + (p + 2)) (i + 1 + p) 34
      simp only [Array.size_append, List.size_toArray, size_zeroCells, hl0]
      rw [show (Value.agg #[Value.string ⟨#[]⟩, .int .i64 0]).cells.size = 2 from rfl]
      omega
    · simp only [Array.toList_append, List.append_assoc]
      rw [List.take_append_of_le_length (by rw [List.toList_toArray, hl0]; omega), List.toList_toArray, List.take_take, Nat.min_self]
  have hg1 : W1.heap[w.heap.size]? = some (.cells row0 34 (0, 0)) := by rw [hW1]; exact heap_alloc_new w.drew _
  have hB1 : Below w.heap.size w W1 := by rw [hW1]; exact ((Below.refl _ _).drew).alloc (Nat.le_refl _) _
  obtain ⟨row1, hrow1⟩ : ∃ row1, row1 = (row0.toList.take (i * 2) ++ (encEn nw) ++ row0.toList.drop (i * 2 + (encEn nw).length)).toArray := ⟨_, rfl⟩
  have hen : (encEn nw).length = 2 := rfl
  have hs1 : row1.size = gc * 2 := by rw [hrow1]; simp; omega
  obtain ⟨W2, hW2⟩ : ∃ W2, W2 = W1.setRow w.heap.size row1 := ⟨_, rfl⟩
  have hlv : Bv < w.heap.size := lt_of_cell (hv 0 _ rfl)
  obtain ⟨r1, hcp1⟩ : ∃ r, Hid (∀ ty, (Builtin.copy_ #[25, 25] ty #[.slice (some ⟨w.heap.size, i * 2, none⟩) (p + 2) (gc - i), .slice (some ⟨Bv, 0, none⟩) 1 1]).run Try.prog W1 = .ok r W2) := by
    refine ⟨goInt ((Nat.min 1 (p + 2) : Nat) : Int), fun ty => ?_⟩
    have hmn : Nat.min 1 (p + 2) = 1 := by simp
    have := run_copy_rowsE W1 ty w.heap.size (i * 2) (p + 2) (gc - i) ⟨Bv, 0, none⟩ 1 1 row0 (encEn nw) hg1 (by rw [hmn]; rfl) (fun j u hj => by rw [Addr.add_lit, Nat.zero_add, hB1.cell hlv]; exact hv j u hj) (by rw [hen, hs0]; omega) hone2
    rw [this, hW2, hrow1]
  have hg2 : W2.heap[w.heap.size]? = some (.cells row1 34 (0, 0)) := by rw [hW2]; exact setRow_heap W1 _ row0 row1 _ _ hg1
  have hB2 : Below w.heap.size w W2 := by rw [hW2]; exact below_row hB1 (Nat.le_refl _) _
  obtain ⟨rest, hrest⟩ : ∃ rest, rest = cur.toList.drop (i * 2) := ⟨_, rfl⟩
  have hlr : rest.length = (p + 1) * 2 := by rw [hrest]; simp; omega
  obtain ⟨row2, hrow2⟩ : ∃ row2, row2 = (row1.toList.take ((i + 1) * 2) ++ rest ++ row1.toList.drop ((i + 1) * 2 + rest.length)).toArray := ⟨_, rfl⟩
  have hs2 : row2.size = gc * 2 := by rw [hrow2]; simp; omega
  obtain ⟨W3, hW3⟩ : ∃ W3, W3 = W2.drew.setRow w.heap.size row2 := ⟨_, rfl⟩
  obtain ⟨r2, hcp2⟩ : ∃ r, Hid (∀ ty, (Builtin.copy_ #[25, 25] ty #[.slice (some ⟨w.heap.size, (i + 1) * 2, none⟩) (p + 1) (gc - (i + 1)), .slice (some ⟨B, i * 2, none⟩) (p + 1) (p + 1)]).run Try.prog W2.drew = .ok r W3) := by
    refine ⟨goInt ((Nat.min (p + 1) (p + 1) : Nat) : Int), fun ty => ?_⟩
    have hmn : Nat.min (p + 1) (p + 1) = p + 1 := by simp
    have := run_copy_rowsE W2.drew ty w.heap.size ((i + 1) * 2) (p + 1) (gc - (i + 1)) ⟨B, i * 2, none⟩ (p + 1) (p + 1) row1 rest hg2 (by rw [hmn]; omega) (fun j u hj => by
      rw [Addr.add_lit]
      show W2.cell? _ = _
      rw [hB2.cell hBl]
      rw [hrest, List.getElem?_drop] at hj
      simpa [World.cell?, hg] using hj) (by rw [hlr, hs1]; omega) (fun u hu => hone u (by rw [hrest] at hu; exact List.mem_of_mem_drop hu))
    rw [this, hW3, hrow2]
  have S := (show Hid _ from And.intro hg2 (And.intro hB2 (And.intro hW3 (And.intro hrow2 (And.intro hrow1 (And.intro hrest (And.intro hlr (And.intro hs1 (And.intro hs2 (And.intro hle (And.intro ht0 hl0)))))))))))
  clear hg2 hB2 hW3 hrow2 hrow1 hrest hlr hs1 hs2 hle ht0 hW1 hW2 hg1 hB1 hone hone2 hv hi0 hz0 hz1 hz2 hs0 hg hsz hl0
  have hc1 := hcp1.out
  have q1 : ((i : Int) == (i : Int) + 1 + (p : Int)) = false := by simp; omega
  have q2 : ¬ gc = i := by omega
  have qw : IntKind.i64.wrap ((i : Int) + 1) = (i : Int) + 1 := by rw [IntKind.wrap_i64]; omega
  have q6 : (0 : Int) ≤ (i : Int) + 1 := by omega
  have q7 : (i : Int) + 1 ≤ (i : Int) + ((p : Int) + 2) := by omega
  have q8 : i + (p + 2) - (i + 1) = p + 1 := by omega
  have q9 : i + 1 + p - i = p + 1 := by omega
  have q10 : (i : Int) ≤ (i : Int) + 1 + (p : Int) := by omega
  have q3 : ¬ gc = i + 1 := by omega
  have q4 : i ≤ i + 1 + p := by omega
  have q5 : ¬ i + 1 + p = i := by omega
  go_enter Try.func34, Try.ntmps34
  go_wp2_with (first | (at_builtin; refine Lib.wpList_append_run _ rfl (.tmp 34) (.tmp 39) _ _ rfl _ _ rfl (show Value.int .i64 _ = Value.int .i64 _ by congr 1; omega) _ _ (happ.out _) ?_))
  go_region_law (refine step_copy_eq rfl (.tmp 50) (.tmp 53) 25 25 rfl _ _ (by simp [Act.eval, Act.put]) (by simp [Act.eval, Act.put]) _ _ (hcp2.out _) ?_)
  go_wp2
  go_ret
  obtain ⟨hg2, hB2, hW3, hrow2, hrow1, hrest, hlr, hs1, hs2, hle, ht0, hl0⟩ := S.out
  have e : i + (p + 2) = i + 1 + p + 1 := by omega
  have hl1 : (row1.toList.take ((i + 1) * 2)).length = (i + 1) * 2 := by simp; omega
  have t1 : row1.toList.take ((i + 1) * 2) = cur.toList.take (i * 2) ++ (encEn nw) := by
    rw [hrow1, List.toList_toArray, ht0]
    have : (cur.toList.take (i * 2) ++ (encEn nw)).length = (i + 1) * 2 := by rw [List.length_append, hl0, hen]; omega
    rw [List.take_append_of_le_length (by omega), List.take_of_length_le (by omega)]
  refine ⟨.slice (some ⟨w.heap.size, 0, none⟩) (i + 1 + p + 1) gc, by rw [← e]; rfl, ⟨own_toE ⟨?_, .inr ⟨w.heap.size, gc, row2, rfl, Nat.zero_le _, ?_, by omega, hle, hs2, ?_⟩⟩, ?_, fun b hb => by cases hb; rfl⟩, ?_⟩
  · rw [← hrest, List.length_append, List.length_append, hl0, hen, hlr]; omega
  · rw [hW3]; exact setRow_heap W2.drew _ row1 row2 _ _ hg2
  · rw [hrow2, List.toList_toArray, t1, ← hrest]
    have : (cur.toList.take (i * 2) ++ (encEn nw) ++ rest).length = (i + 1 + p + 1) * 2 := by rw [List.length_append, List.length_append, hl0, hen, hlr]; omega
    rw [List.take_append_of_le_length (by omega), List.take_of_length_le (by omega)]
  · omega
  · rw [hW3]; exact below_row hB2.drew (Nat.le_refl _) _

theorem sizeE (w : World) : (Go.sizeOf 34).run Try.prog w = .ok 2 w := by
  simp [go_sem, Try.sizeOf34]

set_option maxRecDepth 100000 in
set_option maxHeartbeats 2000000 in
theorem Insert_inE (B Bv i p c : Nat) (nw : En) (cur : Array Value) (w : World) (hg : w.heap[B]? = some (.cells cur 34 (0, 0))) (hsz : cur.size = c * 2) (hc : i + 1 + p < c) (_hcm : c ≤ 9223372036854775807) (hone : ∀ u ∈ cur.toList.take ((i + 1 + p) * 2), u.oneCell' = true) (hone2 : ∀ u ∈ (encEn nw), u.oneCell' = true) (hn : i + 1 + p < 1000000)
    (hne : Bv ≠ B) (row : w.heap[Bv]? = some (.cells (encEn nw).toArray 34 (0, 0))) :
    Calls Try.prog 34 #[.slice (some ⟨B, 0, none⟩) (i + 1 + p) c, .int .i64 (i : Int), .slice (some ⟨Bv, 0, none⟩) 1 1] w
      fun e w' => e = .returned (.slice (some ⟨B, 0, none⟩) (i + 1 + p + 1) c) ∧ (∃ cur', w'.heap[B]? = some (.cells cur' 34 (0, 0)) ∧ cur'.size = c * 2 ∧ cur'.toList.take ((i + 1 + p + 1) * 2) = cur.toList.take (i * 2) ++ (encEn nw) ++ (cur.toList.take ((i + 1 + p) * 2)).drop (i * 2)) ∧ w.grownBy w' (some B) := by
  have hen : (encEn nw).length = 2 := rfl
  have hov := Lib.run_overlaps_apart (P := Try.prog) w 25 4 34 Try.underlying25 2 sizeE ⟨Bv, 0, none⟩ ⟨B, (i + 1) * 2, none⟩ 1 1 (p + 1) (c - (i + 1)) hne 34 34 2 (c * 2) (by simp [World.shape?, row, encEn]) (by simp [World.shape?, hg, hsz]) (by omega) (by simp [World.frozen?, row]) (by simp [World.frozen?, row])
  rw [show p + 1 = i + 1 + p - i by omega] at hov
  have hcall : (callFunc 45 #[.slice (some ⟨Bv, 0, none⟩) 1 1, .slice (some ⟨B, (i + 1) * 2, none⟩) (i + 1 + p - i) (c - (i + 1))]).run Try.prog w = .ok (.value (.bool false)) w := by
    rw [@run_callFunc_extern Try.prog 45 _ (Extern.SlicesOverlaps.overlaps #[25, 25] #[4]) Try.func45 (by kernel_rfl) (by kernel_rfl) (by kernel_rfl) (by kernel_rfl), hov]
    rfl
  clear hov
  have hlk : (cur.toList.take ((i + 1 + p) * 2)).length = (i + 1 + p) * 2 := by simp; omega
  obtain ⟨rest, hrest⟩ : ∃ rest, rest = (cur.toList.take ((i + 1 + p) * 2)).drop (i * 2) := ⟨_, rfl⟩
  have hlr : rest.length = (p + 1) * 2 := by rw [hrest, List.length_drop, hlk]; omega
  obtain ⟨row1, hrow1⟩ : ∃ row1, row1 = (cur.toList.take ((i + 1) * 2) ++ rest ++ cur.toList.drop ((i + 1) * 2 + rest.length)).toArray := ⟨_, rfl⟩
  have hs1 : row1.size = c * 2 := by rw [hrow1]; simp; omega
  obtain ⟨W1, hW1⟩ : ∃ W1, W1 = w.drew.setRow B row1 := ⟨_, rfl⟩
  have hgd : w.drew.heap[B]? = some (.cells cur 34 (0, 0)) := hg
  obtain ⟨r1, hcp1⟩ : ∃ r, Hid (∀ ty, (Builtin.copy_ #[25, 25] ty #[.slice (some ⟨B, (i + 1) * 2, none⟩) (i + 1 + p - i) (c - (i + 1)), .slice (some ⟨B, i * 2, none⟩) (i + 1 + p + 1 - i) (c - i)]).run Try.prog w.drew = .ok r W1) := by
    refine ⟨goInt ((Nat.min (i + 1 + p + 1 - i) (i + 1 + p - i) : Nat) : Int), fun ty => ?_⟩
    have hmn : Nat.min (i + 1 + p + 1 - i) (i + 1 + p - i) = p + 1 := by rw [show i + 1 + p + 1 - i = p + 2 by omega, show i + 1 + p - i = p + 1 by omega]; exact Nat.min_eq_right (by omega)
    have := run_copy_rowsE w.drew ty B ((i + 1) * 2) (i + 1 + p - i) (c - (i + 1)) ⟨B, i * 2, none⟩ (i + 1 + p + 1 - i) (c - i) cur rest hgd (by rw [hmn]; omega) (fun j u hj => by
      rw [Addr.add_lit]
      rw [hrest, List.getElem?_drop, List.getElem?_take] at hj
      split at hj
      · show w.cell? _ = _
        simpa [World.cell?, hg] using hj
      · cases hj) (by rw [hlr, hsz]; omega) (fun u hu => hone u (by rw [hrest] at hu; exact List.mem_of_mem_drop hu))
    rw [this, hW1, hrow1]
  have hg1 : W1.heap[B]? = some (.cells row1 34 (0, 0)) := by rw [hW1]; exact setRow_heap w.drew _ cur row1 _ _ hgd
  have hBv : W1.heap[Bv]? = some (.cells (encEn nw).toArray 34 (0, 0)) := by rw [hW1, ← row]; exact (setRow_grown (w := w.drew) (B := B) row1).block Bv (lt_of_heap row) (fun e => hne (Option.some.inj e))
  obtain ⟨row2, hrow2⟩ : ∃ row2, row2 = (row1.toList.take (i * 2) ++ (encEn nw) ++ row1.toList.drop (i * 2 + (encEn nw).length)).toArray := ⟨_, rfl⟩
  have hs2 : row2.size = c * 2 := by rw [hrow2]; simp; omega
  obtain ⟨W2, hW2⟩ : ∃ W2, W2 = W1.setRow B row2 := ⟨_, rfl⟩
  obtain ⟨r2, hcp2⟩ : ∃ r, Hid (∀ ty, (Builtin.copy_ #[25, 25] ty #[.slice (some ⟨B, i * 2, none⟩) (i + 1 + p + 1 - i) (c - i), .slice (some ⟨Bv, 0, none⟩) 1 1]).run Try.prog W1 = .ok r W2) := by
    refine ⟨goInt ((Nat.min 1 (i + 1 + p + 1 - i) : Nat) : Int), fun ty => ?_⟩
    have hmn : Nat.min 1 (i + 1 + p + 1 - i) = 1 := by rw [show i + 1 + p + 1 - i = p + 2 by omega]; exact Nat.min_eq_left (by omega)
    have := run_copy_rowsE W1 ty B (i * 2) (i + 1 + p + 1 - i) (c - i) ⟨Bv, 0, none⟩ 1 1 row1 (encEn nw) hg1 (by rw [hmn]; rfl) (fun j u hj => by rw [Addr.add_lit, Nat.zero_add]; simpa [World.cell?, hBv] using hj) (by rw [hen, hs1]; omega) hone2
    rw [this, hW2, hrow2]
  have S := (show Hid _ from And.intro hg1 (And.intro hW1 (And.intro hW2 (And.intro hrow2 (And.intro hrow1 (And.intro hrest (And.intro hlr (And.intro hs1 (And.intro hs2 hsz)))))))))
  clear hg1 hW1 hW2 hrow2 hrow1 hrest hlr hs1 hs2 hBv hgd hone hone2 hg hsz row hlk
  have q1 : ((i : Int) == (i : Int) + 1 + (p : Int)) = false := by simp; omega
  have q2 : ¬ (c : Int) < (i : Int) + 1 + (p : Int) + 1 := by omega
  have q3 : (i : Int) ≤ (i : Int) + 1 + (p : Int) := by omega
  have q4 : ¬ c = i := by omega
  have q5 : ¬ c = i + 1 := by omega
  have qw : IntKind.i64.wrap ((i : Int) + 1) = (i : Int) + 1 := by rw [IntKind.wrap_i64]; omega
  have q6 : (0 : Int) ≤ (i : Int) + 1 := by omega
  have q7 : (i : Int) + 1 ≤ (i : Int) + 1 + (p : Int) + 1 := by omega
  have q8 : (i : Int) ≤ (i : Int) + 1 + (p : Int) + 1 := by omega
  have hc2 := hcp2.out
  go_enter Try.func34, Try.ntmps34
  go_wp2
  go_region_law (refine step_copy_eq rfl (.tmp 73) (.tmp 76) 25 25 rfl _ _ (by simp [Act.eval, Act.put]) (by simp [Act.eval, Act.put]) _ _ (hcp1.out _) ?_)
  go_wp2
  go_ret
  obtain ⟨hg1, hW1, hW2, hrow2, hrow1, hrest, hlr, hs1, hs2, hsz⟩ := S.out
  have hlc : cur.toList.length = c * 2 := by simpa using hsz
  have hl1 : (cur.toList.take ((i + 1) * 2)).length = (i + 1) * 2 := by rw [List.length_take]; omega
  have hl0 : (cur.toList.take (i * 2)).length = i * 2 := by rw [List.length_take]; omega
  have t1 : row1.toList.take (i * 2) = cur.toList.take (i * 2) := by
    rw [hrow1, List.toList_toArray, List.append_assoc, List.take_append_of_le_length (by omega), List.take_take, Nat.min_eq_left (by omega)]
  have t2 : row1.toList.drop (i * 2 + 2) = rest ++ cur.toList.drop ((i + 1) * 2 + rest.length) := by
    rw [hrow1, List.toList_toArray, List.append_assoc]
    exact List.drop_left' (by omega)
  have g1 := setRow_grown (w := w.drew) (B := B) row1
  have g2 := setRow_grown (w := W1) (B := B) row2
  rw [← hW1] at g1
  rw [← hW2] at g2
  refine ⟨rfl, ⟨row2, ?_, hs2, ?_⟩, ⟨g2.os.trans g1.os, g2.tape.trans g1.tape, g2.output.trans g1.output, Nat.le_trans g1.size g2.size, fun k hk hne => (g2.block k (Nat.lt_of_lt_of_le hk g1.size) hne).trans (g1.block k hk hne)⟩⟩
  · rw [hW2]; exact setRow_heap W1 _ row1 row2 _ _ hg1
  · rw [hrow2, List.toList_toArray, t1, hen, t2, ← hrest, ← List.append_assoc]
    have hll : (cur.toList.take (i * 2) ++ (encEn nw) ++ rest).length = (i + 1 + p + 1) * 2 := by rw [List.length_append, List.length_append, hl0, hen, hlr]; omega
    rw [List.take_append_of_le_length (by omega), List.take_of_length_le (by omega)]

set_option maxRecDepth 100000 in
set_option maxHeartbeats 2000000 in
theorem Insert_lastE (fs : List En) (g cap B0 Bv : Nat) (nw : En) (w : World) (hown : w.ownsRow B0 34 2 (.slice (some ⟨g, 0, none⟩) fs.length cap) fs.length (encEns fs)) (hB0 : B0 ≤ w.heap.size)
    (hone2 : ∀ u ∈ (encEn nw), u.oneCell' = true) (hn : fs.length < 1000000) (_hc0 : cap ≤ 9223372036854775807) (_hc1 : fs.length ≤ cap) (hv : ∀ i u, (encEn nw)[i]? = some u → w.cell? ⟨Bv, i, none⟩ = some u) :
    Calls Try.prog 34 #[.slice (some ⟨g, 0, none⟩) fs.length cap, .int .i64 (fs.length : Int), .slice (some ⟨Bv, 0, none⟩) 1 1] w
      fun e w' => ∃ v', e = .returned v' ∧ w'.ownsRow B0 34 2 v' (fs.length + 1) (encEns fs ++ (encEn nw)) ∧ w.grownBy w' (some g) ∧ (some g = v'.ownBlock ∨ ∃ g, v'.ownBlock = some g ∧ w.heap.size ≤ g) := by
  obtain ⟨i0, hi, hz0, hz1, hz2⟩ := info_parts infoE
  have HO := (show Hid _ from hown)
  have hnews : Hid (∀ j u, (encEn nw)[j]? = some u → w.cell? ((⟨Bv, 0, none⟩ : Addr).add j) = some u) := fun j u hj => by rw [Addr.add_lit, Nat.zero_add]; exact hv j u hj
  have H1 := (show Hid _ from hone2)
  clear hown hv hone2
  go_enter Try.func34, Try.ntmps34
  go_wp2_with (first | (at_builtin; refine wpList_append_lies _ rfl (.tmp 23) (.tmp 24) 25 rfl B0 34 i0 _ 2 24 Try.underlying25 hi hz0 hz1 hz2 rfl (by decide) _ fs.length (encEns fs) rfl HO.out ⟨Bv, 0, none⟩ 1 1 (encEn nw) rfl rfl hnews.out H1.out (by omega) (by unfold maxLen; omega) (by omega) hB0 _ rfl ?_; intro g' cap' w3 hown3 hgrow3 hlie hlt3; have Y := (show Hid _ from And.intro hown3 (And.intro hgrow3 hlie)); clear hown3 hgrow3 hlie))
  all_goals
    go_ret
    obtain ⟨hown3, hgrow3, hlie⟩ := Y.out
    refine ⟨_, rfl, hown3, hgrow3, ?_⟩
    rcases hlie with e | e
    · exact .inl e
    · exact .inr ⟨g', rfl, by omega⟩

/-- what is inserted into fields that one owns. -/
theorem Insert_ownE (fs : List En) (s : Value) (B0 Bv j : Nat) (nw : En) (w : World) (hown : w.ownsRow B0 34 2 s fs.length (encEns fs)) (hB0 : B0 ≤ w.heap.size)
    (hone : ∀ u ∈ encEns fs, u.oneCell' = true) (hone2 : ∀ u ∈ (encEn nw), u.oneCell' = true) (hj : j ≤ fs.length) (hn : fs.length < 1000000) (hne : s.ownBlock ≠ some Bv) (row : w.heap[Bv]? = some (.cells (encEn nw).toArray 34 (0, 0))) :
    Calls Try.prog 34 #[s, .int .i64 (j : Int), .slice (some ⟨Bv, 0, none⟩) 1 1] w
      fun e w' => ∃ v', e = .returned v' ∧ w'.ownsRow B0 34 2 v' (fs.length + 1) (encEns (fs.take j ++ nw :: fs.drop j)) ∧ w.grownBy w' s.ownBlock ∧ (s.ownBlock = v'.ownBlock ∨ ∃ g, v'.ownBlock = some g ∧ w.heap.size ≤ g) := by
  have hv : ∀ i u, (encEn nw)[i]? = some u → w.cell? ⟨Bv, i, none⟩ = some u := fun i u hi => by simpa [World.cell?, row] using hi
  have hsplit : encEns (fs.take j ++ nw :: fs.drop j) = (encEns fs).take (j * 2) ++ (encEn nw) ++ (encEns fs).drop (j * 2) := by
    rw [encEns_append, encEns_take, encEns_drop, List.append_assoc]; rfl
  have hfin : ∀ (r : Option Nat) (w' : World) (v' : Value) (m : Nat) (xs : List Value), RowAt (fun k => k = w.heap.size) w' 34 2 v' m xs → Below w.heap.size w w' → w'.ownsRow B0 34 2 v' m xs ∧ w.grownBy w' r := fun r w' v' m xs h hb =>
    ⟨ownsRow_move (fun b hb' _ => ⟨by have := h.2.2 b hb'; omega, rfl⟩) h.1, ⟨hb.os, hb.tape, hb.output, hb.size, fun k hk _ => hb.block k hk⟩⟩
  rw [hsplit]
  rcases own_ofE hown with ⟨hl, ⟨rfl, hz⟩ | ⟨g, cap, cur, rfl, hBg, hg, hnc, hcm, hsz, htk⟩⟩
  · have hf : fs = [] := List.eq_nil_of_length_eq_zero hz
    subst hf
    obtain rfl : j = 0 := by simpa using hj
    refine (Insert_nilE nw Bv w hv).mono ?_
    rintro e w' ⟨v', rfl, hr, hb⟩
    obtain ⟨o1, o2⟩ := hfin none w' v' _ _ hr hb
    refine ⟨v', rfl, by simpa [encEns] using o1, o2, .inr ?_⟩
    obtain ⟨b, c, rfl, _, hb2, _⟩ := hr.cells (by omega)
    exact ⟨b, rfl, by omega⟩
  · have hgv : g ≠ Bv := fun e => hne (by rw [e]; rfl)
    have hcap9 : cap ≤ 9223372036854775807 := Nat.le_trans hcm (by decide)
    by_cases he : j = fs.length
    · subst he
      have e1 : (encEns fs).take (fs.length * 2) = encEns fs := List.take_of_length_le (by omega)
      have e2 : (encEns fs).drop (fs.length * 2) = [] := List.drop_of_length_le (by omega)
      rw [e1, e2, List.append_nil]
      exact Insert_lastE fs g cap B0 Bv nw w (own_toE ⟨hl, .inr ⟨g, cap, cur, rfl, hBg, hg, hnc, hcm, hsz, htk⟩⟩) hB0 hone2 hn hcap9 hnc hv
    · obtain ⟨p, hp⟩ : ∃ p, fs.length = j + 1 + p := ⟨fs.length - (j + 1), by omega⟩
      by_cases hfull : cap = fs.length
      · subst hfull
        have hcur : cur.toList = encEns fs := by rw [← htk]; exact (List.take_of_length_le (by simp; omega)).symm
        rw [hp, ← hcur]
        refine (Insert_midE g Bv j p nw cur w hg (by rw [hsz, hp]) (by rw [hcur]; exact hone) hone2 (by omega) hv).mono ?_
        rintro e w' ⟨v', rfl, hr, hb⟩
        obtain ⟨o1, o2⟩ := hfin (some g) w' v' _ _ hr hb
        refine ⟨v', rfl, o1, o2, .inr ?_⟩
        obtain ⟨b, c, rfl, _, hb2, _⟩ := hr.cells (by omega)
        exact ⟨b, rfl, by omega⟩
      · rw [hp] at htk hl ⊢
        refine (Insert_inE g Bv j p cap nw cur w hg hsz (by omega) hcap9 (by rw [htk]; exact hone) hone2 (by omega) (fun e => hgv e.symm) row).mono ?_
        rintro e w' ⟨rfl, ⟨cur', c1, c2, c3⟩, hgr⟩
        have htj : cur.toList.take (j * 2) = (encEns fs).take (j * 2) := by rw [← htk, List.take_take, Nat.min_eq_left (by omega)]
        rw [htk, htj] at c3
        have hlj : ((encEns fs).take (j * 2)).length = j * 2 := by rw [List.length_take]; omega
        refine ⟨_, rfl, own_toE ⟨?_, .inr ⟨g, cap, cur', rfl, hBg, c1, by omega, hcm, c2, c3⟩⟩, hgr, .inl rfl⟩
        rw [List.length_append, List.length_append, hlj, List.length_drop, hl, show (encEn nw).length = 2 from rfl]
        omega
end Go.Proofs.Ytoaekmighinmhaa
