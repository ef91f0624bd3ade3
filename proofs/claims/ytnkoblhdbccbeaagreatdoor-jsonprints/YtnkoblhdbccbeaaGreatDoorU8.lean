/-
  slices.Insert at fields by its contract: a slice without room. No conditions beyond those stated.
  package value's Get by its contract; what Set and Del do, as plain functions. No conditions beyond those stated.
  What the walks of stage 3's laws share: quiet regions, and the program's Cmp and Same by the number that they answer. No conditions beyond those stated.
  The program's reader of JSON: the byte ahead, blanks, words. Conditions: as stated (texts of at most 4096 bytes).
  package value's Set by its contract. Condition: there is room for one more field (fewer than a million).
-/
import Derived.Test.YtnkoblhdbccbeaaGreatDoorU4
import Derived.Lib.AppendZerosOnto
import Derived.Lib.SlBuf
import Derived.Lib.QuietBelow
import Derived.BigQuiet
import Derived.Test.YtnkoblhdbccbeaaGreatDoorU2
import Derived.Test.YtnkoblhdbccbeaaGreatDoorU7
import Derived.Lib.Bytes2
namespace Go.Proofs.YtnkoblhdbccbeaaGreatDoor
open Go.RowKit

theorem run_copy_rows (w : World) (ty g o dLen dCap : Nat) (a : Addr) (sLen sCap : Nat) (cur : Array Value) (cs : List Value)
    (hg : w.heap[g]? = some (.cells cur 52 (0, 0))) (hn : cs.length = Nat.min sLen dLen * 6)
    (hsrc : ∀ j v, cs[j]? = some v → w.cell? (a.add j) = some v) (hfit : o + cs.length ≤ cur.size) (h1 : ∀ v ∈ cs, v.oneCell' = true) :
    (Builtin.copy_ #[29, 29] ty #[.slice (some ⟨g, o, none⟩) dLen dCap, .slice (some a) sLen sCap]).run Tryz.prog w =
      .ok (goInt (Nat.min sLen dLen)) (w.setRow g (cur.toList.take o ++ cs ++ cur.toList.drop (o + cs.length)).toArray) := by
  obtain ⟨j0, hi0, hz0, hz1, hz2⟩ := info_parts infoF
  have hl := run_firstCells_some (P := Tryz.prog) w 6 (Nat.min sLen dLen) a sLen sCap cs hn hsrc
  have hst := run_storeCells_at Tryz.prog g o 52 cs 0 cur w hg (by simpa using hfit) h1
  simp only [Nat.add_zero] at hst
  simp [Builtin.copy_, run_underlying Tryz.underlying29, Builtin.lenOf, sizeOf, typeInfo, hi0, hz1, hl, hst]

theorem below_row {B g : Nat} {w0 w : World} (hb : Below B w0 w) (hBg : B ≤ g) (cs : Array Value) : Below B w0 (w.setRow g cs) :=
  ⟨hb.os, hb.tape, hb.output, by simp only [setRow_size]; exact hb.size, fun k hk => by rw [setRow_other w g k cs (by omega)]; exact hb.block k hk⟩

set_option maxHeartbeats 2000000 in
theorem Insert_nil (nw : Fl) (Bv : Nat) (w : World) (hv : ∀ j u, nw.enc[j]? = some u → w.cell? ⟨Bv, j, none⟩ = some u) :
    Calls Tryz.prog 104 #[.slice none 0 0, .int .i64 0, .slice (some ⟨Bv, 0, none⟩) 1 1] w
      fun e w' => ∃ v', e = .returned v' ∧ RowAt (fun k => k = w.heap.size) w' 52 6 v' 1 nw.enc ∧ Below w.heap.size w w' := by
  obtain ⟨j0, hi0, hz0, hz1, hz2⟩ := info_parts infoF
  obtain ⟨gc, row0, W1, hge, hle, hs0, ht0, hW1, happ⟩ : ∃ (gc : Nat) (row0 : Array Value) (W1 : World), 1 ≤ gc ∧ gc ≤ maxLen ∧ row0.size = gc * 6 ∧ row0.toList.take (1 * 6) = nw.enc ∧ W1 = w.drew.alloc (.cells row0 52) ∧ Hid (∀ ty, (Builtin.append_ #[29, 29] ty #[.slice none 0 0, .slice (some ⟨Bv, 0, none⟩) 1 1]).run Tryz.prog w = .ok (.slice (some ⟨w.heap.size, 0, none⟩) 1 gc) W1) := by
    have hr := fun ty => run_append_nil (P := Tryz.prog) w 29 ty 52 j0 _ Tryz.underlying29 hi0 hz0 ⟨Bv, 0, none⟩ 1 1 nw.enc (by rw [hz1]; rfl) (fun j v h => by rw [Addr.add_lit, Nat.zero_add]; exact hv j v h) (by omega) (by omega) (by rw [hz2]; omega)
    refine ⟨_, _, _, grownCap_ge _ _ _ _, grownCap_le_maxLen _ _ _ _ (by unfold maxLen; omega), ?_, ?_, rfl, hr⟩
    · have := grownCap_ge w 1 0 52
      simp only [Array.size_append, List.size_toArray, size_zeroCells]
      rw [show (Value.agg #[Value.string ⟨#[]⟩, .int .i64 0, .int .i64 0, .string ⟨#[]⟩, .slice none 0 0, .slice none 0 0]).cells.size = 6 from rfl, show nw.enc.length = 6 from rfl]
      omega
    · simp only [Array.toList_append]
      rw [show 1 * 6 = nw.enc.length from rfl]
      exact List.take_left
  have S := (show Hid _ from And.intro hle (And.intro hs0 (And.intro ht0 hW1)))
  clear hv hle hs0 ht0 hW1 hi0 hz0 hz1 hz2
  go_enter Tryz.func104, Tryz.ntmps104
  go_wp2_with (first | (at_builtin; refine Lib.wpList_append_run _ rfl (.tmp 23) (.tmp 24) _ _ rfl _ _ rfl rfl _ _ (happ.out _) ?_))
  go_ret
  obtain ⟨hle, hs0, ht0, hW1⟩ := S.out
  refine ⟨.slice (some ⟨w.heap.size, 0, none⟩) 1 gc, rfl, ⟨⟨rfl, .inr ⟨w.heap.size, gc, row0, rfl, Nat.zero_le _, ?_, by omega, hle, hs0, ht0⟩⟩, by omega, fun b hb => by cases hb; rfl⟩, ?_⟩
  · rw [hW1]; exact heap_alloc_new w.drew _
  · rw [hW1]; exact ((Below.refl _ _).drew).alloc (Nat.le_refl _) _

set_option maxHeartbeats 2000000 in
theorem Insert_mid (B Bv i p : Nat) (nw : Fl) (cur : Array Value) (w : World) (hg : w.heap[B]? = some (.cells cur 52 (0, 0))) (hsz : cur.size = (i + 1 + p) * 6) (hone : ∀ u ∈ cur.toList, u.oneCell' = true) (hone2 : ∀ u ∈ nw.enc, u.oneCell' = true) (hn : i + 1 + p < 1000000)
    (hv : ∀ j u, nw.enc[j]? = some u → w.cell? ⟨Bv, j, none⟩ = some u) :
    Calls Tryz.prog 104 #[.slice (some ⟨B, 0, none⟩) (i + 1 + p) (i + 1 + p), .int .i64 (i : Int), .slice (some ⟨Bv, 0, none⟩) 1 1] w
      fun e w' => ∃ v', e = .returned v' ∧ RowAt (fun k => k = w.heap.size) w' 52 6 v' (i + 1 + p + 1) (cur.toList.take (i * 6) ++ nw.enc ++ cur.toList.drop (i * 6)) ∧ Below w.heap.size w w' := by
  obtain ⟨j0, hi0, hz0, hz1, hz2⟩ := info_parts infoF
  have hBl := lt_of_heap hg
  have hl0 : (cur.toList.take (i * 6)).length = i * 6 := by simp; omega
  obtain ⟨gc, row0, W1, hge, hle, hs0, ht0, hW1, happ⟩ : ∃ (gc : Nat) (row0 : Array Value) (W1 : World), i + (p + 2) ≤ gc ∧ gc ≤ maxLen ∧ row0.size = gc * 6 ∧ row0.toList.take (i * 6) = cur.toList.take (i * 6) ∧ W1 = w.drew.alloc (.cells row0 52) ∧ Hid (∀ ty, (Builtin.append_ #[29, 3] ty #[.slice (some ⟨B, 0, none⟩) i (i + 1 + p), .int .i64 ((p + 2 : Nat) : Int)]).run Tryz.prog w = .ok (.slice (some ⟨w.heap.size, 0, none⟩) (i + (p + 2)) gc) W1) := by
    have hr := fun ty => Lib.run_append_grow_zeros (P := Tryz.prog) w 29 3 ty 52 j0 _ .i64 .i64 Tryz.underlying29 Tryz.underlying3 hi0 hz0 (some ⟨B, 0, none⟩) i (i + 1 + p) (cur.toList.take (i * 6)) (by
      rw [hz1]
      refine run_firstCells_some (P := Tryz.prog) w.drew 6 i ⟨B, 0, none⟩ i (i + 1 + p) _ hl0 fun j v hj => ?_
      rw [Addr.add_lit, Nat.zero_add]
      rw [List.getElem?_take] at hj
      split at hj
      · show w.cell? _ = _
        simpa [World.cell?, hg] using hj
      · cases hj) (p + 2) (by omega) (by rw [hz1]; omega) (by omega) (by omega) (by rw [hz2]; omega) (by rw [hz2]; exact growslice_fits (by omega) (by omega))
    refine ⟨_, _, _, grownCap_ge _ _ _ _, grownCap_le_maxLen _ _ _ _ (by unfold maxLen; omega), ?_, ?_, rfl, hr⟩
    · have := grownCap_ge w (i + (p + 2)) (i + 1 + p) 52
      simp only [Array.size_append, List.size_toArray, size_zeroCells, hl0]
      rw [show (Value.agg #[Value.string ⟨#[]⟩, .int .i64 0, .int .i64 0, .string ⟨#[]⟩, .slice none 0 0, .slice none 0 0]).cells.size = 6 from rfl]
      omega
    · simp only [Array.toList_append, List.append_assoc]
      rw [List.take_append_of_le_length (by rw [List.toList_toArray, hl0]; omega), List.toList_toArray, List.take_take, Nat.min_self]
  have hg1 : W1.heap[w.heap.size]? = some (.cells row0 52 (0, 0)) := by rw [hW1]; exact heap_alloc_new w.drew _
  have hB1 : Below w.heap.size w W1 := by rw [hW1]; exact ((Below.refl _ _).drew).alloc (Nat.le_refl _) _
  obtain ⟨row1, hrow1⟩ : ∃ row1, row1 = (row0.toList.take (i * 6) ++ nw.enc ++ row0.toList.drop (i * 6 + nw.enc.length)).toArray := ⟨_, rfl⟩
  have hen : nw.enc.length = 6 := rfl
  have hs1 : row1.size = gc * 6 := by rw [hrow1]; simp; omega
  obtain ⟨W2, hW2⟩ : ∃ W2, W2 = W1.setRow w.heap.size row1 := ⟨_, rfl⟩
  have hlv : Bv < w.heap.size := lt_of_cell (hv 0 _ rfl)
  obtain ⟨r1, hcp1⟩ : ∃ r, Hid (∀ ty, (Builtin.copy_ #[29, 29] ty #[.slice (some ⟨w.heap.size, i * 6, none⟩) (p + 2) (gc - i), .slice (some ⟨Bv, 0, none⟩) 1 1]).run Tryz.prog W1 = .ok r W2) := by
    refine ⟨goInt ((Nat.min 1 (p + 2) : Nat) : Int), fun ty => ?_⟩
    have hmn : Nat.min 1 (p + 2) = 1 := by simp
    have := run_copy_rows W1 ty w.heap.size (i * 6) (p + 2) (gc - i) ⟨Bv, 0, none⟩ 1 1 row0 nw.enc hg1 (by rw [hmn]; rfl) (fun j u hj => by rw [Addr.add_lit, Nat.zero_add, hB1.cell hlv]; exact hv j u hj) (by rw [hen, hs0]; omega) hone2
    rw [this, hW2, hrow1]
  have hg2 : W2.heap[w.heap.size]? = some (.cells row1 52 (0, 0)) := by rw [hW2]; exact setRow_heap W1 _ row0 row1 _ _ hg1
  have hB2 : Below w.heap.size w W2 := by rw [hW2]; exact below_row hB1 (Nat.le_refl _) _
  obtain ⟨rest, hrest⟩ : ∃ rest, rest = cur.toList.drop (i * 6) := ⟨_, rfl⟩
  have hlr : rest.length = (p + 1) * 6 := by rw [hrest]; simp; omega
  obtain ⟨row2, hrow2⟩ : ∃ row2, row2 = (row1.toList.take ((i + 1) * 6) ++ rest ++ row1.toList.drop ((i + 1) * 6 + rest.length)).toArray := ⟨_, rfl⟩
  have hs2 : row2.size = gc * 6 := by rw [hrow2]; simp; omega
  obtain ⟨W3, hW3⟩ : ∃ W3, W3 = W2.drew.setRow w.heap.size row2 := ⟨_, rfl⟩
  obtain ⟨r2, hcp2⟩ : ∃ r, Hid (∀ ty, (Builtin.copy_ #[29, 29] ty #[.slice (some ⟨w.heap.size, (i + 1) * 6, none⟩) (p + 1) (gc - (i + 1)), .slice (some ⟨B, i * 6, none⟩) (p + 1) (p + 1)]).run Tryz.prog W2.drew = .ok r W3) := by
    refine ⟨goInt ((Nat.min (p + 1) (p + 1) : Nat) : Int), fun ty => ?_⟩
    have hmn : Nat.min (p + 1) (p + 1) = p + 1 := by simp
    have := run_copy_rows W2.drew ty w.heap.size ((i + 1) * 6) (p + 1) (gc - (i + 1)) ⟨B, i * 6, none⟩ (p + 1) (p + 1) row1 rest hg2 (by rw [hmn, hlr]) (fun j u hj => by
      rw [Addr.add_lit]
      show W2.cell? _ = _
      rw [hB2.cell hBl]
      rw [hrest, List.getElem?_drop] at hj
      simpa [World.cell?, hg] using hj) (by rw [hlr, hs1]; omega) (fun u hu => hone u (by rw [hrest] at hu; exact List.mem_of_mem_drop hu))
    rw [this, hW3, hrow2]
  have S := (show Hid _ from And.intro hg2 (And.intro hB2 (And.intro hW3 (And.intro hrow2 (And.intro hrow1 (And.intro hrest (And.intro hlr (And.intro hs1 (And.intro hs2 (And.intro hle (And.intro ht0 hl0)))))))))))
  clear hg2 hB2 hW3 hrow2 hrow1 hrest hlr hs1 hs2 hle ht0 hW1 hW2 hg1 hB1 hone hone2 hv hi0 hz0 hz1 hz2 hs0 hg hsz hl0
  have hc1 := hcp1.out
  have q1 : ((i : Int) == (i : Int) + 1 + (p : Int)) = false := by simp; omega
  have q2 : ¬ gc = i := by omega
  have qw : IntKind.i64.wrap ((i : Int) + 1) = (i : Int) + 1 := by rw [IntKind.wrap_i64]; omega
  have q6 : (0 : Int) ≤ (i : Int) + 1 := by omega
  have q7 : (i : Int) + 1 ≤ (i : Int) + ((p : Int) + 2) := by omega
  have q8 : i + (p + 2) - (i + 1) = p + 1 := by omega
  have q9 : i + 1 + p - i = p + 1 := by omega
  have q10 : (i : Int) ≤ (i : Int) + 1 + (p : Int) := by omega
  have q3 : ¬ gc = i + 1 := by omega
  have q4 : i ≤ i + 1 + p := by omega
  have q5 : ¬ i + 1 + p = i := by omega
  go_enter Tryz.func104, Tryz.ntmps104
  go_wp2_with (first | (at_builtin; refine Lib.wpList_append_run _ rfl (.tmp 34) (.tmp 39) _ _ rfl _ _ rfl (show Value.int .i64 _ = Value.int .i64 _ by congr 1; omega) _ _ (happ.out _) ?_))
  go_region_law (refine step_copy_eq rfl (.tmp 50) (.tmp 53) 29 29 rfl _ _ (by simp [Act.eval, Act.put]) (by simp [Act.eval, Act.put]) _ _ (hcp2.out _) ?_)
  go_wp2
  go_ret
  obtain ⟨hg2, hB2, hW3, hrow2, hrow1, hrest, hlr, hs1, hs2, hle, ht0, hl0⟩ := S.out
  have e : i + (p + 2) = i + 1 + p + 1 := by omega
  have hl1 : (row1.toList.take ((i + 1) * 6)).length = (i + 1) * 6 := by simp; omega
  have t1 : row1.toList.take ((i + 1) * 6) = cur.toList.take (i * 6) ++ nw.enc := by
    rw [hrow1, List.toList_toArray, ht0]
    have : (cur.toList.take (i * 6) ++ nw.enc).length = (i + 1) * 6 := by rw [List.length_append, hl0, hen]; omega
    rw [List.take_append_of_le_length (by omega), List.take_of_length_le (by omega)]
  refine ⟨.slice (some ⟨w.heap.size, 0, none⟩) (i + 1 + p + 1) gc, by rw [← e]; rfl, ⟨⟨?_, .inr ⟨w.heap.size, gc, row2, rfl, Nat.zero_le _, ?_, by omega, hle, hs2, ?_⟩⟩, ?_, fun b hb => by cases hb; rfl⟩, ?_⟩
  · rw [← hrest, List.length_append, List.length_append, hl0, hen, hlr]; omega
  · rw [hW3]; exact setRow_heap W2.drew _ row1 row2 _ _ hg2
  · rw [hrow2, List.toList_toArray, t1, ← hrest]
    have : (cur.toList.take (i * 6) ++ nw.enc ++ rest).length = (i + 1 + p + 1) * 6 := by rw [List.length_append, List.length_append, hl0, hen, hlr]; omega
    rw [List.take_append_of_le_length (by omega), List.take_of_length_le (by omega)]
  · omega
  · rw [hW3]; exact below_row hB2.drew (Nat.le_refl _) _

set_option maxHeartbeats 2000000 in
theorem Insert_end (B Bv n : Nat) (nw : Fl) (cur : Array Value) (w : World) (hg : w.heap[B]? = some (.cells cur 52 (0, 0))) (hsz : cur.size = n * 6) (hn : n < 1000000)
    (hv : ∀ j u, nw.enc[j]? = some u → w.cell? ⟨Bv, j, none⟩ = some u) :
    Calls Tryz.prog 104 #[.slice (some ⟨B, 0, none⟩) n n, .int .i64 (n : Int), .slice (some ⟨Bv, 0, none⟩) 1 1] w
      fun e w' => ∃ v', e = .returned v' ∧ RowAt (fun k => k = w.heap.size) w' 52 6 v' (n + 1) (cur.toList ++ nw.enc) ∧ Below w.heap.size w w' := by
  obtain ⟨j0, hi0, hz0, hz1, hz2⟩ := info_parts infoF
  have hlc : cur.toList.length = n * 6 := by simpa using hsz
  obtain ⟨gc, row0, W1, hge, hle, hs0, ht0, hW1, happ⟩ : ∃ (gc : Nat) (row0 : Array Value) (W1 : World), n + 1 ≤ gc ∧ gc ≤ maxLen ∧ row0.size = gc * 6 ∧ row0.toList.take ((n + 1) * 6) = cur.toList ++ nw.enc ∧ W1 = w.drew.alloc (.cells row0 52) ∧ Hid (∀ ty, (Builtin.append_ #[29, 29] ty #[.slice (some ⟨B, 0, none⟩) n n, .slice (some ⟨Bv, 0, none⟩) 1 1]).run Tryz.prog w = .ok (.slice (some ⟨w.heap.size, 0, none⟩) (n + 1) gc) W1) := by
    have hr := fun ty => run_append_grow (P := Tryz.prog) w 29 ty 52 j0 _ Tryz.underlying29 hi0 hz0 ⟨B, 0, none⟩ n n cur.toList (by rw [hz1]; exact hlc) (fun j v hj => by
      rw [Addr.add_lit, Nat.zero_add]
      simpa [World.cell?, hg] using hj) ⟨Bv, 0, none⟩ 1 1 nw.enc (by rw [hz1]; rfl) (fun j v hj => by rw [Addr.add_lit, Nat.zero_add]; exact hv j v hj) (by omega) (by omega) (by rw [hz2]; exact growslice_fits (by omega) (by omega))
    refine ⟨_, _, _, grownCap_ge _ _ _ _, grownCap_le_maxLen _ _ _ _ (by unfold maxLen; omega), ?_, ?_, rfl, hr⟩
    · have := grownCap_ge w (n + 1) n 52
      simp only [Array.size_append, List.size_toArray, size_zeroCells, hlc]
      rw [show (Value.agg #[Value.string ⟨#[]⟩, .int .i64 0, .int .i64 0, .string ⟨#[]⟩, .slice none 0 0, .slice none 0 0]).cells.size = 6 from rfl, show nw.enc.length = 6 from rfl]
      omega
    · have : (cur.toList ++ nw.enc).length = (n + 1) * 6 := by rw [List.length_append, hlc, show nw.enc.length = 6 from rfl]; omega
      simp only [Array.toList_append]
      rw [← this]
      exact List.take_left
  have S := (show Hid _ from And.intro hle (And.intro hs0 (And.intro ht0 (And.intro hW1 hlc))))
  clear hg hsz hv hle hs0 ht0 hW1 hlc hi0 hz0 hz1 hz2
  go_enter Tryz.func104, Tryz.ntmps104
  go_wp2_with (first | (at_builtin; refine Lib.wpList_append_run _ rfl (.tmp 23) (.tmp 24) _ _ rfl _ _ rfl rfl _ _ (happ.out _) ?_))
  go_ret
  obtain ⟨hle, hs0, ht0, hW1, hlc⟩ := S.out
  refine ⟨.slice (some ⟨w.heap.size, 0, none⟩) (n + 1) gc, rfl, ⟨⟨?_, .inr ⟨w.heap.size, gc, row0, rfl, Nat.zero_le _, ?_, by omega, hle, hs0, ht0⟩⟩, ?_, fun b hb => by cases hb; rfl⟩, ?_⟩
  · rw [List.length_append, hlc, show nw.enc.length = 6 from rfl]; omega
  · rw [hW1]; exact heap_alloc_new w.drew _
  · omega
  · rw [hW1]; exact ((Below.refl _ _).drew).alloc (Nat.le_refl _) _
end Go.Proofs.YtnkoblhdbccbeaaGreatDoor

namespace Go.Proofs.YtnkoblhdbccbeaaGreatDoor
open Go.RowKit

def zeroV : V := ⟨0, 0, ⟨#[]⟩, [], []⟩
/-- the value of the first field of that name. -/
def getV (v : V) (name : ByteArray) : Option V := if v.kind = 5 then getF name v.fields else none
/-- the first field of that name is x. -/
def replF (name : ByteArray) (x : V) : List (ByteArray × V) → List (ByteArray × V)
  | [] => []
  | f :: fs => if cmpT f.1 name = 0 then (f.1, x) :: fs else f :: replF name x fs
/-- ahead of the first field whose name is above. -/
def insF (name : ByteArray) (x : V) : List (ByteArray × V) → List (ByteArray × V)
  | [] => [(name, x)]
  | f :: fs => if 0 < cmpT f.1 name then (name, x) :: f :: fs else f :: insF name x fs
def setG (name : ByteArray) (x : V) (fs : List (ByteArray × V)) : List (ByteArray × V) := if (getF name fs).isSome then replF name x fs else insF name x fs

theorem where_name (name : ByteArray) : ∀ fs : List (ByteArray × V), (whereI (isName name) fs = -1 ∧ getF name fs = none) ∨
    ∃ (j : Nat) (q : ByteArray) (x : V), whereI (isName name) fs = j ∧ fs[j]? = some (q, x) ∧ getF name fs = some x ∧ (∀ y, replF name y fs = fs.set j (q, y)) ∧ delF name fs = fs.take j ++ fs.drop (j + 1)
  | [] => .inl ⟨rfl, rfl⟩
  | f :: fs => by
    by_cases h : cmpT f.1 name = 0
    · right
      refine ⟨0, f.1, f.2, ?_, rfl, ?_, fun y => ?_, ?_⟩
      · simp [whereI, isName, h]
      · simp [getF, h]
      · simp [replF, h]
      · simp [delF, h]
    · have hn : isName name f = false := by unfold isName; exact decide_eq_false h
      rcases where_name name fs with ⟨h1, h2⟩ | ⟨j, q, x, h1, h2, h3, h4, h5⟩
      · left
        constructor
        · simp [whereI, hn, h1]
        · simp [getF, h, h2]
      · right
        refine ⟨j + 1, q, x, ?_, by simpa using h2, ?_, fun y => ?_, ?_⟩
        · simp only [whereI, hn, h1]
          rw [if_neg (by simp), if_neg (by omega)]
          omega
        · simp [getF, h, h3]
        · simp [replF, h, h4]
        · simp [delF, h, h5]
theorem where_above (name : ByteArray) (x : V) : ∀ fs : List (ByteArray × V), ∃ j : Nat, aboveI name fs = j ∧ j ≤ fs.length ∧ insF name x fs = fs.take j ++ (name, x) :: fs.drop j
  | [] => ⟨0, rfl, Nat.le_refl _, rfl⟩
  | f :: fs => by
    by_cases h : 0 < cmpT f.1 name
    · refine ⟨0, ?_, Nat.zero_le _, ?_⟩
      · simp [aboveI, whereI, isAbove, h]
      · simp [insF, h]
    · have hn : isAbove name f = false := by unfold isAbove; exact decide_eq_false h
      obtain ⟨j, h1, h2, h3⟩ := where_above name x fs
      refine ⟨j + 1, ?_, by simpa using h2, ?_⟩
      · have hr := whereI_range (isAbove name) fs
        unfold aboveI at h1 ⊢
        simp only [whereI, hn, List.length_cons, Bool.false_eq_true, if_false]
        by_cases h0 : whereI (isAbove name) fs < 0
        · rw [if_pos h0] at h1
          rw [if_pos h0, if_pos (by omega)]
          omega
        · rw [if_neg h0] at h1
          rw [if_neg h0, if_neg (by omega)]
          omega
      · simp [insF, h, h3]
theorem get_none_above {name : ByteArray} : ∀ {fs : List (ByteArray × V)} {f : ByteArray × V}, Rises (f :: fs) → 0 < cmpT f.1 name → getF name fs = none
  | [], _, _, _ => rfl
  | g :: gs, f, h, h0 => by
    have a1 := good_cmpT.anti f.1 name
    have a2 := good_cmpT.anti name g.1
    have := good_cmpT.lt_left (a := name) (b := f.1) (c := g.1) (by omega) (by have := h.1; omega)
    exact get_above h.2 (by omega)
/-- where names rise both ways are one. -/
theorem setG_eq (name : ByteArray) (x : V) : ∀ {fs}, Rises fs → setG name x fs = setF name x fs
  | [], _ => rfl
  | f :: fs, h => by
    have ih := setG_eq name x h.tail
    unfold setG at ih ⊢
    simp only [setF, getF]
    by_cases h0 : cmpT f.1 name = 0
    · simp [h0, replF]
    · simp only [h0, if_false]
      by_cases h1 : 0 < cmpT f.1 name
      · have := get_none_above h h1
        simp [h1, this, insF]
      · simp only [h1, if_false]
        rw [← ih]
        by_cases hs : (getF name fs).isSome = true
        · simp [hs, replF, h0]
        · simp [hs, insF, h1]

theorem row_below {w0 W : World} (hW : Below w0.heap.size w0 W) {b : Nat} {o : Obj} (h : w0.heap[b]? = some o) : W.heap[b]? = some o := (hW.block b (lt_of_heap h)).trans h
theorem heap_alloc3_0 {w : World} {o1 o2 o3 : Obj} : (((w.alloc o1).alloc o2).alloc o3).heap[w.heap.size]? = some o1 := by
  rw [Below.heap_alloc ((w.alloc o1).alloc o2) o3 w.heap.size (by simp; omega)]; exact heap_alloc2_old
theorem heap_alloc3_1 {w : World} {o1 o2 o3 : Obj} : (((w.alloc o1).alloc o2).alloc o3).heap[w.heap.size + 1]? = some o2 := by
  rw [Below.heap_alloc ((w.alloc o1).alloc o2) o3 (w.heap.size + 1) (by simp)]; exact heap_alloc2_new
theorem heap_alloc3_2 {w : World} {o1 o2 o3 : Obj} : (((w.alloc o1).alloc o2).alloc o3).heap[w.heap.size + 2]? = some o3 := by
  have := heap_alloc_new ((w.alloc o1).alloc o2) o3
  simpa using this

/-- what Get answers, where it lies. -/
def GotV (m : Nat) (w w' : World) (x : V) (l' f' : Value) : Prop := Rep (fun k => w.heap.size ≤ k) m w' x l' f' ∧ Below w.heap.size w w'

end Go.Proofs.YtnkoblhdbccbeaaGreatDoor

namespace Go.Proofs.YtnkoblhdbccbeaaGreatDoor
open Go.RowKit

theorem mixed : Tryz.prog.follows .mixedOrders = true := by kernel_rfl
theorem below_regrown_cell {w : World} {b o : Nat} {v : Value} (h : w.cell? ⟨b, o, none⟩ = some v) (d : Nat) (os : Array Obj) : (Go.Sort.grow (redrawn w d) os).cell? ⟨b, o, none⟩ = some v := cell_regrown h d os

theorem cmpI_range (a b : Int) : -1 ≤ cmpI a b ∧ cmpI a b ≤ 1 := by unfold cmpI; repeat' split <;> omega
theorem cmpL_range {α : Type} {f : α → α → Int} (h : ∀ a b, -1 ≤ f a b ∧ f a b ≤ 1) : ∀ a b, -1 ≤ cmpL f a b ∧ cmpL f a b ≤ 1
  | [], [] => by simp [cmpL]
  | [], _ :: _ => by simp [cmpL]
  | _ :: _, [] => by simp [cmpL]
  | x :: xs, y :: ys => by
    simp only [cmpL]
    split
    · exact cmpL_range h xs ys
    · exact h x y
theorem cmpV_range : ∀ (n : Nat) (a b : V), -1 ≤ cmpV n a b ∧ cmpV n a b ≤ 1
  | 0, _, _ => by simp [cmpV]
  | n + 1, a, b => by
    have hT : ∀ p q, -1 ≤ cmpT p q ∧ cmpT p q ≤ 1 := fun p q => by have := cmpB_range p.toList q.toList; unfold cmpT; omega
    simp only [cmpV]
    split
    · split
      · exact cmpI_range _ _
      · split
        · exact hT _ _
        · split
          · exact cmpL_range (cmpV_range n) _ _
          · split
            · refine cmpL_range (fun p q => ?_) _ _
              unfold cmpF
              split
              · exact cmpV_range n _ _
              · exact hT _ _
            · omega
    · exact cmpI_range _ _

theorem VCmp_is {n : Nat} {a b : V} {la fa lb fb : Value} {w : World} {r : Int} (hr : cmpV (n + 1) a b = r) (ha : Lies n w a la fa) (hb : Lies n w b lb fb) :
    Calls Tryz.prog 33 #[.agg #[.int .i64 a.kind, .int .i64 a.num, .string a.text, la, fa], .agg #[.int .i64 b.kind, .int .i64 b.num, .string b.text, lb, fb]] w fun e w' => e = .returned (.int .i64 r) ∧ Below w.heap.size w w' := by
  rw [← hr]; exact VCmp_any n a b la fa lb fb w ha hb
theorem Same_is {n : Nat} {a b : V} {la fa lb fb : Value} {w : World} (hr : cmpV (n + 1) a b = 0) (ha : Lies n w a la fa) (hb : Lies n w b lb fb) :
    Calls Tryz.prog 18 #[.agg #[.int .i64 a.kind, .int .i64 a.num, .string a.text, la, fa], .agg #[.int .i64 b.kind, .int .i64 b.num, .string b.text, lb, fb]] w fun e w' => e = .returned (.bool true) ∧ Below w.heap.size w w' := by
  have h := Same_any n a b la fa lb fb w ha hb
  rw [hr] at h; exact h

end Go.Proofs.YtnkoblhdbccbeaaGreatDoor

namespace Go.Proofs.YtnkoblhdbccbeaaGreatDoor
open Go.RowKit Go.Extern.Stop Go.Stop Go.Extern

/-- all that was there is as it was, but for one block. -/
structure Kept (b : Nat) (w w' : World) : Prop where
  os : w'.os = w.os
  tape : w'.tape = w.tape
  output : w'.output = w.output
  size : w.heap.size ≤ w'.heap.size
  block : ∀ k, k < w.heap.size → k ≠ b → w'.heap[k]? = w.heap[k]?
theorem Kept.refl (b : Nat) (w : World) : Kept b w w := ⟨rfl, rfl, rfl, Nat.le_refl _, fun _ _ _ => rfl⟩
theorem Kept.trans {b : Nat} {x y z : World} (h : Kept b x y) (k : Kept b y z) : Kept b x z :=
  ⟨k.os.trans h.os, k.tape.trans h.tape, k.output.trans h.output, Nat.le_trans h.size k.size, fun i hi hb => (k.block i (Nat.lt_of_lt_of_le hi h.size) hb).trans (h.block i hi hb)⟩
theorem Kept.of_below {b : Nat} {w w' : World} (h : Below w.heap.size w w') : Kept b w w' := ⟨h.os, h.tape, h.output, h.size, fun k hk _ => h.block k hk⟩
theorem Kept.below {b B : Nat} {w w' : World} (h : Kept b w w') (hB : B ≤ b) (hw : B ≤ w.heap.size) : Below B w w' := ⟨h.os, h.tape, h.output, h.size, fun k hk => h.block k (by omega) (by omega)⟩
theorem Kept.set {b o : Nat} {v : Value} (w : World) : Kept b w (w.setCell ⟨b, o, none⟩ v) :=
  ⟨rfl, rfl, rfl, by simp [World.setCell], fun k _ hk => Below.heap_setCell _ _ _ _ hk⟩

/-- what the program finds in its variables. -/
structure JEnv (w : World) : Prop where
  text : TEnv w
  syn : ∃ ev, w.cell? ⟨7, 0, none⟩ = some ev ∧ (ev = .nilIface ∨ ∃ te pe, ev = .iface te pe)
  range : ∃ ev, w.cell? ⟨8, 0, none⟩ = some ev ∧ (ev = .nilIface ∨ ∃ te pe, ev = .iface te pe)
theorem JEnv.below {w w' : World} (h : JEnv w) (hb : Below w.heap.size w w') : JEnv w' := by
  refine ⟨h.text.below hb, ?_, ?_⟩
  · obtain ⟨ev, h1, h2⟩ := h.syn
    exact ⟨ev, (hb.cell (lt_of_cell h1)).trans h1, h2⟩
  · obtain ⟨ev, h1, h2⟩ := h.range
    exact ⟨ev, (hb.cell (lt_of_cell h1)).trans h1, h2⟩

/-- a reader of s that is at k. -/
structure Rd (w0 : World) (b : Nat) (s : ByteArray) (k : Nat) (w : World) : Prop where
  env : JEnv w0
  below : Below w0.heap.size w0 w
  le : w0.heap.size ≤ b
  rd : w.heap[b]? = some (.cells #[.string s, .int .i64 (k : Int)] 61 (0, 0))
  hk : k ≤ s.size
  hs : s.size ≤ 4096
theorem Rd.now {w0 w : World} {b k : Nat} {s : ByteArray} (h : Rd w0 b s k w) : JEnv w := h.env.below h.below
theorem Rd.kept {w0 w w' : World} {b k k' : Nat} {s : ByteArray} (h : Rd w0 b s k w) (hk : Kept b w w') (hr : w'.heap[b]? = some (.cells #[.string s, .int .i64 (k' : Int)] 61 (0, 0))) (hk' : k' ≤ s.size) : Rd w0 b s k' w' :=
  ⟨h.env, h.below.trans (hk.below h.le h.below.size), h.le, hr, hk', h.hs⟩
theorem Rd.same {w0 w w' : World} {b k : Nat} {s : ByteArray} (h : Rd w0 b s k w) (hb : Below w.heap.size w w') : Rd w0 b s k w' :=
  h.kept (Kept.of_below hb) ((hb.block _ (lt_of_heap h.rd)).trans h.rd) h.hk
theorem Rd.cells {w0 w : World} {b k : Nat} {s : ByteArray} (h : Rd w0 b s k w) : w.cell? ⟨b, 0, none⟩ = some (.string s) ∧ w.cell? ⟨b, 1, none⟩ = some (.int .i64 (k : Int)) ∧ w.frozen? ⟨b, 1, none⟩ = false ∧ b < w.heap.size :=
  ⟨cell_of_heap h.rd rfl, cell_of_heap h.rd rfl, (by simp [World.frozen?, h.rd]), lt_of_heap h.rd⟩
theorem Rd.set {w0 w : World} {b k k' : Nat} {s : ByteArray} (h : Rd w0 b s k w) (hk' : k' ≤ s.size) : Rd w0 b s k' (w.setCell ⟨b, 1, none⟩ (.int .i64 (k' : Int))) := by
  refine h.kept (Kept.set w) ?_ hk'
  have := h.rd
  simp [World.setCell, Array.getElem?_modify, this]

theorem hd_at {s : ByteArray} {k : Nat} (h : k < s.size) : ∃ x : UInt8, s[k]'h = x ∧ s.data.toList.drop k = x :: s.data.toList.drop (k + 1) := by
  have hl : k < s.data.toList.length := by rw [← size_list rfl]; exact h
  refine ⟨s[k]'h, rfl, ?_⟩
  rw [drop_cons _ _ hl]
  congr 1
theorem hd_end {s : ByteArray} {k : Nat} (h : ¬ k < s.size) : s.data.toList.drop k = [] := List.drop_eq_nil_of_le (by rw [← size_list rfl]; omega)

set_option maxHeartbeats 1000000 in
theorem peek_any {w0 w : World} {b k : Nat} {s : ByteArray} (R : Rd w0 b s k w) {c : Int} (hc : ((hd (s.data.toList.drop k) : Nat) : Int) = c) :
    Calls Tryz.prog 43 #[.pointer (some ⟨b, 0, none⟩)] w fun e w' => e = .returned (.int .u8 c) ∧ Below w.heap.size w w' := by
  obtain ⟨c0, c1, cf, hb⟩ := R.cells
  have hk := R.hk
  have hs := R.hs
  have C0 := fun d os => below_regrown_cell c0 d os
  have C1 := fun d os => below_regrown_cell c1 d os
  by_cases h : k < s.size
  · obtain ⟨x, hx, hd1⟩ := hd_at h
    have hcx : (x.toNat : Int) = c := by rw [← hc, hd1]; rfl
    have HC := (show Hid _ from hcx)
    have ne : ((k : Int) == (s.size : Int)) = false := by simp; omega
    have z0 : (0 : Int) ≤ (k : Int) := by omega
    have z1 : (k : Int) < (s.size : Int) := by omega
    have HK := (show Hid _ from And.intro hk hs)
    clear R hk hs hd1 hc hcx
    go_enter Tryz.func43, Tryz.ntmps43
    go_wp2_with fail
    refine wp_region_quiet_below mixed (by kernel_rfl) ?_
    iterate 10 go_big_quiet_step (fail)
    refine wpQuiet_nil ?_
    rintro w5 ⟨⟨dq, osq⟩, hw5⟩
    have hb5 : Below w.heap.size w w5 := by rw [hw5]; exact below_regrown w dq osq
    have d0 := (hb5.cell (p := ⟨b, 0, none⟩) hb).trans c0
    have d1 := (hb5.cell (p := ⟨b, 1, none⟩) hb).trans c1
    have C0 := fun d os => below_regrown_cell d0 d os
    have C1 := fun d os => below_regrown_cell d1 d os
    clear hw5 c0 c1 cf
    go_wp2_with fail
    refine wp_region_quiet_below mixed (by kernel_rfl) ?_
    iterate 10 go_big_quiet_step (fail)
    refine wpQuiet_nil ?_
    rintro w6 ⟨⟨dr, osr⟩, hw6⟩
    have hb6 : Below w5.heap.size w5 w6 := by rw [hw6]; exact below_regrown w5 dr osr
    clear hw6
    go_wp2_with fail
    go_ret
    exact ⟨by rw [HC.out]; rfl, hb5.trans (hb6.mono hb5.size)⟩
  · have e0 : c = 0 := by rw [← hc, hd_end h]; rfl
    have eq : ((k : Int) == (s.size : Int)) = true := by simp; omega
    subst e0
    clear R hk hs hc h
    go_enter Tryz.func43, Tryz.ntmps43
    go_wp2_with fail
    refine wp_region_quiet_below mixed (by kernel_rfl) ?_
    iterate 10 go_big_quiet_step (fail)
    refine wpQuiet_nil ?_
    rintro w5 ⟨⟨dq, osq⟩, hw5⟩
    have hb5 : Below w.heap.size w w5 := by rw [hw5]; exact below_regrown w dq osq
    clear hw5
    go_wp2_with fail
    go_ret
    exact ⟨rfl, hb5⟩

theorem jdigit_any (c : Int) (w : World) : Calls Tryz.prog 44 #[.int .u8 c] w fun e w' => e = .returned (.bool (decide (48 ≤ c ∧ c ≤ 57))) ∧ w' = w := by
  by_cases h1 : c < 48
  · have h2 : ¬ 48 ≤ c := by omega
    go_enter Tryz.func44, Tryz.ntmps44
    go_wp2
    go_ret
    exact ⟨by rw [decide_eq_false (by omega)]; rfl, rfl⟩
  · have h2 : 48 ≤ c := by omega
    by_cases h3 : c ≤ 57
    · go_enter Tryz.func44, Tryz.ntmps44
      go_wp2
      go_ret
      simp
    · go_enter Tryz.func44, Tryz.ntmps44
      go_wp2
      go_ret
      exact ⟨by rw [decide_eq_false (fun h => by omega)]; rfl, rfl⟩

theorem skip_hd_bl {b : UInt8} {t : List UInt8} (h : isBl b) : skip (b :: t) = skip t := by simp only [skip, if_pos h]
theorem skip_hd_no {l : List UInt8} {c : Int} (hc : ((hd l : Nat) : Int) = c) (h : ¬ (c = 9 ∨ c = 10 ∨ c = 13 ∨ c = 32)) : skip l = l := by
  cases l with
  | nil => rfl
  | cons b t =>
    have : ((b.toNat : Nat) : Int) = c := hc
    simp only [skip]
    rw [if_neg]
    intro h'
    rcases h' with e | e | e | e <;> omega

set_option maxHeartbeats 1000000 in
theorem blanks_any {w0 w : World} {b k : Nat} {s : ByteArray} (R : Rd w0 b s k w) :
    Calls Tryz.prog 28 #[.pointer (some ⟨b, 0, none⟩)] w fun e w' => e = .returned (.tuple #[]) ∧ Kept b w w' ∧ ∃ k', k ≤ k' ∧ Rd w0 b s k' w' ∧ s.data.toList.drop k' = skip (s.data.toList.drop k) := by
  go_enter Tryz.func28, Tryz.ntmps28
  go_wp2_with fail
  go_loopg [] s.size (fun gg wr => ∃ k', k ≤ k' ∧ s.size - k' ≤ gg ∧ Rd w0 b s k' wr ∧ Kept b w wr ∧ skip (s.data.toList.drop k') = skip (s.data.toList.drop k))
  case atStart => exact ⟨k, Nat.le_refl _, by omega, R, Kept.refl _ _, rfl⟩
  case round =>
    obtain ⟨k', hk, hgg, R', K', hsk⟩ := hrel
    obtain ⟨c, hc⟩ : ∃ c : Int, ((hd (s.data.toList.drop k') : Nat) : Int) = c := ⟨_, rfl⟩
    by_cases hbl : c = 9 ∨ c = 10 ∨ c = 13 ∨ c = 32
    · have hlt : k' < s.size := by
        by_cases h : k' < s.size
        · exact h
        · rw [hd_end h] at hc
          simp only [hd] at hc
          omega
      obtain ⟨x, _, hx⟩ := hd_at hlt
      have hxc : ((x.toNat : Nat) : Int) = c := by rw [← hc, hx]; rfl
      have hsk' : skip (s.data.toList.drop (k' + 1)) = skip (s.data.toList.drop k) := by
        rw [← hsk, hx, skip_hd_bl]
        rcases hbl with e | e | e | e
        · exact .inl (by omega)
        · exact .inr (.inl (by omega))
        · exact .inr (.inr (.inl (by omega)))
        · exact .inr (.inr (.inr (by omega)))
      have hp := peek_any R' hc
      have HS := (show Hid _ from And.intro hsk' (And.intro hk (And.intro hgg hlt)))
      have hw64 : (k' : Int) + 1 ≤ 5000 := by have := R'.hs; omega
      clear hsk hsk' hc hxc hx hk hgg
      rcases hbl with rfl | rfl | rfl | rfl
      all_goals
        go_wp2_with fail
        refine hp.mono ?_
        rintro e w1 ⟨rfl, hb1⟩
        have R1 := R'.same hb1
        have K1 := K'.trans (Kept.of_below hb1)
        obtain ⟨c0, c1, cf, hbl⟩ := R1.cells
        have HR := (show Hid _ from And.intro R1 K1)
        clear hp R' K' R1 K1 hb1
        go_wp2_with fail
        go_roundg (s.size - (k' + 1))
        case measure => have := HS.out; omega
        case rel =>
          obtain ⟨R1, K1⟩ := HR.out
          obtain ⟨hsk', hk, hgg, hlt⟩ := HS.out
          refine ⟨k' + 1, by omega, by omega, ?_, K1.trans (Kept.set _), hsk'⟩
          have := R1.set (k' := k' + 1) (by omega)
          exact this
    · have hsk2 := skip_hd_no hc hbl
      have e9 : (c == 9) = false := by simp; omega
      have e10 : (c == 10) = false := by simp; omega
      have e13 : (c == 13) = false := by simp; omega
      have e32 : (c == 32) = false := by simp; omega
      have hp := peek_any R' hc
      have HS := (show Hid _ from And.intro hsk (And.intro hsk2 (And.intro hk (And.intro R' K'))))
      clear hsk hsk2 hc hk hgg hbl R' K' R
      go_wp2_with fail
      refine hp.mono ?_
      rintro e w1 ⟨rfl, hb1⟩
      go_wp2_with fail
      obtain ⟨hsk, hsk2, hk, R', K'⟩ := HS.out
      refine bodyPost_ret (v := .tuple #[]) (by simp [results, Tryz.results28, go_sem]) rfl ⟨rfl, K'.trans (Kept.of_below hb1), k', hk, R'.same hb1, ?_⟩
      rw [← hsk, hsk2]

set_option maxHeartbeats 1000000 in
theorem take_any {w0 w : World} {b k : Nat} {s : ByteArray} (R : Rd w0 b s k w) (t : ByteArray) (ht : t.size ≤ 100) {p : Bool} (hp : Lib.hasPrefix (s.data.toList.drop k) t.data.toList = p) :
    Calls Tryz.prog 74 #[.pointer (some ⟨b, 0, none⟩), .string t] w fun e w' => e = .returned (.bool p) ∧ Kept b w w' ∧ Rd w0 b s (if p = true then k + t.size else k) w' := by
  obtain ⟨c0, c1, cf, hb⟩ := R.cells
  have hk := R.hk
  have hs := R.hs
  have C0 := fun d os => below_regrown_cell c0 d os
  have C1 := fun d os => below_regrown_cell c1 d os
  have hdl := drop_list (s := s) rfl k
  have hcall := fun d os => Calls.regrown_of ((Tryz.strings_HasPrefix (s.extract k s.size) t (Go.Sort.grow (redrawn w d) os)).mono fun e w' h => (show e = .returned (.bool p) ∧ Below (Go.Sort.grow (redrawn w d) os).heap.size (Go.Sort.grow (redrawn w d) os) w' from ⟨by rw [h.1, hdl, hp], by rw [h.2]; exact Below.refl _ _⟩))
  have z0 : (0 : Int) ≤ (k : Int) := by omega
  have z1 : (k : Int) ≤ (s.size : Int) := by omega
  have hw : wrap64 ((k : Int) + (t.size : Int)) = (k : Int) + (t.size : Int) := by unfold wrap64; omega
  have HK := (show Hid _ from And.intro hk (And.intro hs hp))
  have HT := (show Hid _ from ht)
  clear hk hs hp hdl ht
  go_enter Tryz.func74, Tryz.ntmps74
  go_wp2_with fail
  refine wp_region_quiet_below mixed (by kernel_rfl) ?_
  iterate 10 go_big_quiet_step (fail)
  go_big_quiet_step (exact hcall _ _)
  go_big_quiet_step (fail)
  refine wpQuiet_nil ?_
  rintro w5 ⟨⟨dq, osq⟩, hw5⟩
  have hb5 : Below w.heap.size w w5 := by rw [hw5]; exact below_regrown w dq osq
  have R5 := R.same hb5
  clear hw5 hcall C0 C1 c0 c1 cf hb R
  obtain ⟨d0, d1, df, hd⟩ := R5.cells
  have HR := (show Hid _ from R5)
  clear R5
  cases p
  · go_wp2_with fail
    go_ret
    exact ⟨rfl, Kept.of_below hb5, HR.out⟩
  · go_wp2_with fail
    go_ret
    refine ⟨rfl, (Kept.of_below hb5).trans (Kept.set _), ?_⟩
    obtain ⟨hk, hs, hp⟩ := HK.out
    have hle := Lib.hasPrefix_le hp
    rw [List.length_drop, ← size_list (s := s) rfl, ← size_list (s := t) rfl] at hle
    exact HR.out.set (k' := k + t.size) (by omega)

theorem has_one (l : List UInt8) (c : UInt8) (hc : c.toNat ≠ 0) : Lib.hasPrefix l [c] = decide (hd l = c.toNat) := by
  cases l with
  | nil =>
    have : ¬ hd [] = c.toNat := fun h => hc h.symm
    simp [Lib.hasPrefix, List.isPrefixOf, this]
  | cons b t =>
    by_cases h : b.toNat = c.toNat
    · have e : b = c := toNat_inj h
      subst e
      simp [Lib.hasPrefix, List.isPrefixOf, hd]
    · have : ¬ c = b := fun e => h (by rw [e])
      simp [Lib.hasPrefix, List.isPrefixOf, hd, h, this]

/-- what is left behind one sign, if it is taken. -/
def after (p : Bool) (l : List UInt8) : List UInt8 := if p = true then l.drop 1 else l
/-- one sign is taken, if it comes next. -/
theorem take_one {w0 w : World} {b k : Nat} {s : ByteArray} (R : Rd w0 b s k w) (c : UInt8) (hc : c.toNat ≠ 0) {p : Bool} (hp : decide (hd (s.data.toList.drop k) = c.toNat) = p) :
    Calls Tryz.prog 74 #[.pointer (some ⟨b, 0, none⟩), .string ⟨#[c]⟩] w fun e w' => e = .returned (.bool p) ∧ Kept b w w' ∧ ∃ k', Rd w0 b s k' w' ∧ s.data.toList.drop k' = after p (s.data.toList.drop k) := by
  refine (take_any R ⟨#[c]⟩ (by show (1 : Nat) ≤ 100; decide) (p := p) (by rw [← hp]; exact has_one _ c hc)).mono ?_
  rintro e w' ⟨rfl, hk, hR⟩
  refine ⟨rfl, hk, _, hR, ?_⟩
  cases p
  · rfl
  · show s.data.toList.drop (k + 1) = _
    show _ = (s.data.toList.drop k).drop 1
    rw [List.drop_drop]

theorem mark_one {w0 w : World} {b k : Nat} {s : ByteArray} (R : Rd w0 b s k w) (c : UInt8) (hc : c.toNat ≠ 0) {p : Bool} (hp : decide (hd (skip (s.data.toList.drop k)) = c.toNat) = p) :
    Calls Tryz.prog 78 #[.pointer (some ⟨b, 0, none⟩), .string ⟨#[c]⟩] w fun e w' => e = .returned (.bool p) ∧ Kept b w w' ∧ ∃ k', Rd w0 b s k' w' ∧ s.data.toList.drop k' = after p (skip (s.data.toList.drop k)) := by
  have HP := (show Hid _ from hp)
  clear hp
  go_enter Tryz.func78, Tryz.ntmps78
  go_wp2_with fail
  refine (blanks_any R).mono ?_
  rintro e w1 ⟨rfl, K1, k1, hk1, R1, hd1⟩
  have HP1 : decide (hd (s.data.toList.drop k1) = c.toNat) = p := by rw [hd1]; exact HP.out
  have htk := take_one R1 c hc HP1
  rw [hd1] at htk
  clear HP1 hd1
  go_wp2_with fail
  refine htk.mono ?_
  rintro e w2 ⟨rfl, K2, k2, R2, hd2⟩
  go_wp2_with fail
  go_ret
  exact ⟨rfl, K1.trans K2, k2, R2, hd2⟩
end Go.Proofs.YtnkoblhdbccbeaaGreatDoor

namespace Go.Proofs.YtnkoblhdbccbeaaGreatDoor
open Go.RowKit

/-- a row that is full, and where it lies. -/
theorem RowAt.full {W : World} {B n : Nat} {s : Value} {xs : List Value} {t : Nat} (h : RowAt (fun k => k = B) W t 6 s n xs) (hc : ∀ a m c, s = .slice a m c → c = m) (hn : 0 < n ∨ s ≠ .slice none 0 0) : s = .slice (some ⟨B, 0, none⟩) n n ∧ ∃ cur, W.heap[B]? = some (.cells cur t (0, 0)) ∧ cur.toList = xs := by
  obtain ⟨⟨h1, h2⟩, h3, h4⟩ := h
  rcases h2 with ⟨rfl, h5⟩ | ⟨g, cap, cur, rfl, _, hg, h5, h6, h7, h8⟩
  · rcases hn with hn | hn
    · omega
    · exact absurd rfl hn
  · have e1 := h4 g rfl
    have e2 := hc _ _ _ rfl
    subst e1 e2
    refine ⟨rfl, cur, hg, ?_⟩
    rw [← h8, List.take_of_length_le (by simp; omega)]
theorem encFs_set (fs : List Fl) (j : Nat) (e e' : Fl) (h : fs[j]? = some e) : encFs (fs.set j e') = encFs (fs.take j) ++ e'.enc ++ encFs (fs.drop (j + 1)) ∧ encFs fs = encFs (fs.take j) ++ e.enc ++ encFs (fs.drop (j + 1)) := by
  have hj : j < fs.length := (List.getElem?_eq_some_iff.1 h).1
  have e1 : fs.set j e' = fs.take j ++ e' :: fs.drop (j + 1) := by rw [List.set_eq_take_append_cons_drop, if_pos hj]
  have e2 : fs = fs.take j ++ e :: fs.drop (j + 1) := by
    have h3 := (List.getElem?_eq_some_iff.1 h).2
    rw [← h3, ← List.drop_eq_getElem_cons hj, List.take_append_drop]
  constructor
  · rw [e1, encFs_append, List.append_assoc]; rfl
  · have h4 : encFs fs = encFs (fs.take j ++ e :: fs.drop (j + 1)) := congrArg encFs e2
    rw [h4, encFs_append, List.append_assoc]; rfl
/-- the value of a field is written in place. -/
theorem row_set {W : World} {B j : Nat} {cur : Array Value} {fs : List Fl} {e : Fl} (hg : W.heap[B]? = some (.cells cur 52 (0, 0))) (hcur : cur.toList = encFs fs) (h : fs[j]? = some e) (v : V) (l f : Value) :
    ∃ cur', (((((W.setCell ⟨B, j * 6 + 1, none⟩ (.int .i64 v.kind)).setCell ⟨B, j * 6 + 2, none⟩ (.int .i64 v.num)).setCell ⟨B, j * 6 + 3, none⟩ (.string v.text)).setCell ⟨B, j * 6 + 4, none⟩ l).setCell ⟨B, j * 6 + 5, none⟩ f).heap[B]? = some (.cells cur' 52 (0, 0)) ∧ cur'.toList = encFs (fs.set j ⟨e.name, v, l, f⟩) := by
  have hj : j < fs.length := (List.getElem?_eq_some_iff.1 h).1
  have hsz : cur.size = fs.length * 6 := by rw [← Array.length_toList, hcur, encFs_length]
  obtain ⟨h1, h2⟩ := encFs_set fs j e ⟨e.name, v, l, f⟩ h
  have hX : (encFs (fs.take j)).length = j * 6 := by rw [encFs_length, List.length_take]; congr 1; omega
  refine ⟨_, set5 hg (i := j * 6 + 1) (by omega) _ _ _ _ _, ?_⟩
  rw [List.toList_toArray, hcur, h1]
  rw [h2]
  obtain ⟨en, ev, el, ef⟩ := e
  have a1 : List.take (j * 6 + 1) (encFs (fs.take j) ++ Fl.enc ⟨en, ev, el, ef⟩ ++ encFs (fs.drop (j + 1))) = encFs (fs.take j) ++ [.string en] := by
    have : (encFs (fs.take j) ++ [Value.string en]).length = j * 6 + 1 := by simp [hX]
    rw [← this, show encFs (fs.take j) ++ Fl.enc ⟨en, ev, el, ef⟩ ++ encFs (fs.drop (j + 1)) = (encFs (fs.take j) ++ [Value.string en]) ++ ([.int .i64 ev.kind, .int .i64 ev.num, .string ev.text, el, ef] ++ encFs (fs.drop (j + 1))) by simp [Fl.enc], List.take_left]
  have a2 : List.drop (j * 6 + 1 + 5) (encFs (fs.take j) ++ Fl.enc ⟨en, ev, el, ef⟩ ++ encFs (fs.drop (j + 1))) = encFs (fs.drop (j + 1)) := by
    have : (encFs (fs.take j) ++ Fl.enc ⟨en, ev, el, ef⟩).length = j * 6 + 1 + 5 := by rw [List.length_append, hX]; rfl
    rw [← this, List.drop_left]
  rw [a1, a2]
  simp [Fl.enc]

/-- five cells of one block, written. -/
def set5W (W : World) (B i0 i1 i2 i3 i4 : Nat) (a0 a1 a2 a3 a4 : Value) : World := ((((W.setCell ⟨B, i0, none⟩ a0).setCell ⟨B, i1, none⟩ a1).setCell ⟨B, i2, none⟩ a2).setCell ⟨B, i3, none⟩ a3).setCell ⟨B, i4, none⟩ a4
theorem set5W_ne (W : World) (B i0 i1 i2 i3 i4 : Nat) (a0 a1 a2 a3 a4 : Value) {k : Nat} (h : k ≠ B) : (set5W W B i0 i1 i2 i3 i4 a0 a1 a2 a3 a4).heap[k]? = W.heap[k]? := by
  unfold set5W
  rw [heap_setCell_ne _ _ _ h, heap_setCell_ne _ _ _ h, heap_setCell_ne _ _ _ h, heap_setCell_ne _ _ _ h, heap_setCell_ne _ _ _ h]
theorem set5W_size (W : World) (B i0 i1 i2 i3 i4 : Nat) (a0 a1 a2 a3 a4 : Value) : (set5W W B i0 i1 i2 i3 i4 a0 a1 a2 a3 a4).heap.size = W.heap.size := by simp [set5W]
theorem set5W_below {w W : World} {C B : Nat} (hb : Below C w W) (h : C ≤ B) (i0 i1 i2 i3 i4 : Nat) (a0 a1 a2 a3 a4 : Value) : Below C w (set5W W B i0 i1 i2 i3 i4 a0 a1 a2 a3 a4) :=
  ((((hb.setCell h _).setCell h _).setCell h _).setCell h _).setCell h _

end Go.Proofs.YtnkoblhdbccbeaaGreatDoor
