/-
  slices.Insert at fields by its contract: a slice without room. No conditions beyond those stated.
  package value's Get by its contract; what Set and Del do, as plain functions. No conditions beyond those stated.
  package value's Set by its contract. Condition: there is room for one more field (fewer than a million).
-/
import Derived.Test.YtgcccihnlecpnaaGreatDoorU4
import Derived.Lib.AppendZerosOnto
import Derived.Lib.SlBuf
namespace Go.Proofs.YtgcccihnlecpnaaGreatDoor
open Go.RowKit

theorem run_copy_rows (w : World) (ty g o dLen dCap : Nat) (a : Addr) (sLen sCap : Nat) (cur : Array Value) (cs : List Value)
    (hg : w.heap[g]? = some (.cells cur 44 (0, 0))) (hn : cs.length = Nat.min sLen dLen * 6)
    (hsrc : ∀ j v, cs[j]? = some v → w.cell? (a.add j) = some v) (hfit : o + cs.length ≤ cur.size) (h1 : ∀ v ∈ cs, v.oneCell' = true) :
    (Builtin.copy_ #[26, 26] ty #[.slice (some ⟨g, o, none⟩) dLen dCap, .slice (some a) sLen sCap]).run Tryz.prog w =
      .ok (goInt (Nat.min sLen dLen)) (w.setRow g (cur.toList.take o ++ cs ++ cur.toList.drop (o + cs.length)).toArray) := by
  obtain ⟨j0, hi0, hz0, hz1, hz2⟩ := info_parts infoF
  have hl := run_firstCells_some (P := Tryz.prog) w 6 (Nat.min sLen dLen) a sLen sCap cs hn hsrc
  have hst := run_storeCells_at Tryz.prog g o 44 cs 0 cur w hg (by simpa using hfit) h1
  simp only [Nat.add_zero] at hst
  simp [Builtin.copy_, run_underlying Tryz.underlying26, Builtin.lenOf, sizeOf, typeInfo, hi0, hz1, hl, hst]

theorem below_row {B g : Nat} {w0 w : World} (hb : Below B w0 w) (hBg : B ≤ g) (cs : Array Value) : Below B w0 (w.setRow g cs) :=
  ⟨hb.os, hb.tape, hb.output, by simp only [setRow_size]; exact hb.size, fun k hk => by rw [setRow_other w g k cs (by omega)]; exact hb.block k hk⟩

set_option maxHeartbeats 2000000 in
theorem Insert_nil (nw : Fl) (Bv : Nat) (w : World) (hv : ∀ j u, nw.enc[j]? = some u → w.cell? ⟨Bv, j, none⟩ = some u) :
    Calls Tryz.prog 56 #[.slice none 0 0, .int .i64 0, .slice (some ⟨Bv, 0, none⟩) 1 1] w
      fun e w' => ∃ v', e = .returned v' ∧ RowAt (fun k => k = w.heap.size) w' 44 6 v' 1 nw.enc ∧ Below w.heap.size w w' := by
  obtain ⟨j0, hi0, hz0, hz1, hz2⟩ := info_parts infoF
  obtain ⟨gc, row0, W1, hge, hle, hs0, ht0, hW1, happ⟩ : ∃ (gc : Nat) (row0 : Array Value) (W1 : World), 1 ≤ gc ∧ gc ≤ maxLen ∧ row0.size = gc * 6 ∧ row0.toList.take (1 * 6) = nw.enc ∧ W1 = w.drew.alloc (.cells row0 44) ∧ Hid (∀ ty, (Builtin.append_ #[26, 26] ty #[.slice none 0 0, .slice (some ⟨Bv, 0, none⟩) 1 1]).run Tryz.prog w = .ok (.slice (some ⟨w.heap.size, 0, none⟩) 1 gc) W1) := by
    have hr := fun ty => run_append_nil (P := Tryz.prog) w 26 ty 44 j0 _ Tryz.underlying26 hi0 hz0 ⟨Bv, 0, none⟩ 1 1 nw.enc (by rw [hz1]; rfl) (fun j v h => by rw [Addr.add_lit, Nat.zero_add]; exact hv j v h) (by omega) (by omega) (by rw [hz2]; omega)
    refine ⟨_, _, _, grownCap_ge _ _ _ _, grownCap_le_maxLen _ _ _ _ (by unfold maxLen; omega), ?_, ?_, rfl, hr⟩
    · have := grownCap_ge w 1 0 44
      simp only [Array.size_append, List.size_toArray, size_zeroCells]
      rw [show (Value.agg #[Value.string ⟨#[]⟩, .int .i64 0, .int .i64 0, .string ⟨#[]⟩, .slice none 0 0, .slice none 0 0]).cells.size = 6 from rfl, show nw.enc.length = 6 from rfl]
      omega
    · simp only [Array.toList_append]
      rw [show 1 * 6 = nw.enc.length from rfl]
      exact List.take_left
  have S := (show Hid _ from And.intro hle (And.intro hs0 (And.intro ht0 hW1)))
  clear hv hle hs0 ht0 hW1 hi0 hz0 hz1 hz2
  go_enter Tryz.func56, Tryz.ntmps56
  go_wp2_with (first | (at_builtin; refine Lib.wpList_append_run _ rfl (.tmp 23) (.tmp 24) _ _ rfl _ _ rfl rfl _ _ (happ.out _) ?_))
  go_ret
  obtain ⟨hle, hs0, ht0, hW1⟩ := S.out
  refine ⟨.slice (some ⟨w.heap.size, 0, none⟩) 1 gc, rfl, ⟨⟨rfl, .inr ⟨w.heap.size, gc, row0, rfl, Nat.zero_le _, ?_, by omega, hle, hs0, ht0⟩⟩, by omega, fun b hb => by cases hb; rfl⟩, ?_⟩
  · rw [hW1]; exact heap_alloc_new w.drew _
  · rw [hW1]; exact ((Below.refl _ _).drew).alloc (Nat.le_refl _) _

set_option maxHeartbeats 2000000 in
theorem Insert_mid (B Bv i p : Nat) (nw : Fl) (cur : Array Value) (w : World) (hg : w.heap[B]? = some (.cells cur 44 (0, 0))) (hsz : cur.size = (i + 1 + p) * 6) (hone : ∀ u ∈ cur.toList, u.oneCell' = true) (hone2 : ∀ u ∈ nw.enc, u.oneCell' = true) (hn : i + 1 + p < 1000000)
    (hv : ∀ j u, nw.enc[j]? = some u → w.cell? ⟨Bv, j, none⟩ = some u) :
    Calls Tryz.prog 56 #[.slice (some ⟨B, 0, none⟩) (i + 1 + p) (i + 1 + p), .int .i64 (i : Int), .slice (some ⟨Bv, 0, none⟩) 1 1] w
      fun e w' => ∃ v', e = .returned v' ∧ RowAt (fun k => k = w.heap.size) w' 44 6 v' (i + 1 + p + 1) (cur.toList.take (i * 6) ++ nw.enc ++ cur.toList.drop (i * 6)) ∧ Below w.heap.size w w' := by
  obtain ⟨j0, hi0, hz0, hz1, hz2⟩ := info_parts infoF
  have hBl := lt_of_heap hg
  have hl0 : (cur.toList.take (i * 6)).length = i * 6 := by simp; omega
  obtain ⟨gc, row0, W1, hge, hle, hs0, ht0, hW1, happ⟩ : ∃ (gc : Nat) (row0 : Array Value) (W1 : World), i + (p + 2) ≤ gc ∧ gc ≤ maxLen ∧ row0.size = gc * 6 ∧ row0.toList.take (i * 6) = cur.toList.take (i * 6) ∧ W1 = w.drew.alloc (.cells row0 44) ∧ Hid (∀ ty, (Builtin.append_ #[26, 3] ty #[.slice (some ⟨B, 0, none⟩) i (i + 1 + p), .int .i64 ((p + 2 : Nat) : Int)]).run Tryz.prog w = .ok (.slice (some ⟨w.heap.size, 0, none⟩) (i + (p + 2)) gc) W1) := by
    have hr := fun ty => Lib.run_append_grow_zeros (P := Tryz.prog) w 26 3 ty 44 j0 _ .i64 .i64 Tryz.underlying26 Tryz.underlying3 hi0 hz0 (some ⟨B, 0, none⟩) i (i + 1 + p) (cur.toList.take (i * 6)) (by
      rw [hz1]
      refine run_firstCells_some (P := Tryz.prog) w.drew 6 i ⟨B, 0, none⟩ i (i + 1 + p) _ hl0 fun j v hj => ?_
      rw [Addr.add_lit, Nat.zero_add]
      rw [List.getElem?_take] at hj
      split at hj
      · show w.cell? _ = _
        simpa [World.cell?, hg] using hj
      · cases hj) (p + 2) (by omega) (by rw [hz1]; omega) (by omega) (by omega) (by rw [hz2]; omega) (by rw [hz2]; exact growslice_fits (by omega) (by omega))
    refine ⟨_, _, _, grownCap_ge _ _ _ _, grownCap_le_maxLen _ _ _ _ (by unfold maxLen; omega), ?_, ?_, rfl, hr⟩
    · have := grownCap_ge w (i + (p + 2)) (i + 1 + p) 44
      simp only [Array.size_append, List.size_toArray, size_zeroCells, hl0]
      rw [show (Value.agg #[Value.string ⟨#[]⟩, .int .i64 0, .int .i64 0, .string ⟨#[]⟩, .slice none 0 0, .slice none 0 0]).cells.size = 6 from rfl]
      omega
    · simp only [Array.toList_append, List.append_assoc]
      rw [List.take_append_of_le_length (by rw [List.toList_toArray, hl0]; omega), List.toList_toArray, List.take_take, Nat.min_self]
  have hg1 : W1.heap[w.heap.size]? = some (.cells row0 44 (0, 0)) := by rw [hW1]; exact heap_alloc_new w.drew _
  have hB1 : Below w.heap.size w W1 := by rw [hW1]; exact ((Below.refl _ _).drew).alloc (Nat.le_refl _) _
  obtain ⟨row1, hrow1⟩ : ∃ row1, row1 = (row0.toList.take (i * 6) ++ nw.enc ++ row0.toList.drop (i * 6 + nw.enc.length)).toArray := ⟨_, rfl⟩
  have hen : nw.enc.length = 6 := rfl
  have hs1 : row1.size = gc * 6 := by rw [hrow1]; simp; omega
  obtain ⟨W2, hW2⟩ : ∃ W2, W2 = W1.setRow w.heap.size row1 := ⟨_, rfl⟩
  have hlv : Bv < w.heap.size := lt_of_cell (hv 0 _ rfl)
  obtain ⟨r1, hcp1⟩ : ∃ r, Hid (∀ ty, (Builtin.copy_ #[26, 26] ty #[.slice (some ⟨w.heap.size, i * 6, none⟩) (p + 2) (gc - i), .slice (some ⟨Bv, 0, none⟩) 1 1]).run Tryz.prog W1 = .ok r W2) := by
    refine ⟨goInt ((Nat.min 1 (p + 2) : Nat) : Int), fun ty => ?_⟩
    have hmn : Nat.min 1 (p + 2) = 1 := by simp
    have := run_copy_rows W1 ty w.heap.size (i * 6) (p + 2) (gc - i) ⟨Bv, 0, none⟩ 1 1 row0 nw.enc hg1 (by rw [hmn]; rfl) (fun j u hj => by rw [Addr.add_lit, Nat.zero_add, hB1.cell hlv]; exact hv j u hj) (by rw [hen, hs0]; omega) hone2
    rw [this, hW2, hrow1]
  have hg2 : W2.heap[w.heap.size]? = some (.cells row1 44 (0, 0)) := by rw [hW2]; exact setRow_heap W1 _ row0 row1 _ _ hg1
  have hB2 : Below w.heap.size w W2 := by rw [hW2]; exact below_row hB1 (Nat.le_refl _) _
  obtain ⟨rest, hrest⟩ : ∃ rest, rest = cur.toList.drop (i * 6) := ⟨_, rfl⟩
  have hlr : rest.length = (p + 1) * 6 := by rw [hrest]; simp; omega
  obtain ⟨row2, hrow2⟩ : ∃ row2, row2 = (row1.toList.take ((i + 1) * 6) ++ rest ++ row1.toList.drop ((i + 1) * 6 + rest.length)).toArray := ⟨_, rfl⟩
  have hs2 : row2.size = gc * 6 := by rw [hrow2]; simp; omega
  obtain ⟨W3, hW3⟩ : ∃ W3, W3 = W2.drew.setRow w.heap.size row2 := ⟨_, rfl⟩
  obtain ⟨r2, hcp2⟩ : ∃ r, Hid (∀ ty, (Builtin.copy_ #[26, 26] ty #[.slice (some ⟨w.heap.size, (i + 1) * 6, none⟩) (p + 1) (gc - (i + 1)), .slice (some ⟨B, i * 6, none⟩) (p + 1) (p + 1)]).run Tryz.prog W2.drew = .ok r W3) := by
    refine ⟨goInt ((Nat.min (p + 1) (p + 1) : Nat) : Int), fun ty => ?_⟩
    have hmn : Nat.min (p + 1) (p + 1) = p + 1 := by simp
    have := run_copy_rows W2.drew ty w.heap.size ((i + 1) * 6) (p + 1) (gc - (i + 1)) ⟨B, i * 6, none⟩ (p + 1) (p + 1) row1 rest hg2 (by rw [hmn, hlr]) (fun j u hj => by
      rw [Addr.add_lit]
      show W2.cell? _ = _
      rw [hB2.cell hBl]
      rw [hrest, List.getElem?_drop] at hj
      simpa [World.cell?, hg] using hj) (by rw [hlr, hs1]; omega) (fun u hu => hone u (by rw [hrest] at hu; exact List.mem_of_mem_drop hu))
    rw [this, hW3, hrow2]
  have S := (show Hid _ from And.intro hg2 (And.intro hB2 (And.intro hW3 (And.intro hrow2 (And.intro hrow1 (And.intro hrest (And.intro hlr (And.intro hs1 (And.intro hs2 (And.intro hle (And.intro ht0 hl0)))))))))))
  clear hg2 hB2 hW3 hrow2 hrow1 hrest hlr hs1 hs2 hle ht0 hW1 hW2 hg1 hB1 hone hone2 hv hi0 hz0 hz1 hz2 hs0 hg hsz hl0
  have hc1 := hcp1.out
  have q1 : ((i : Int) == (i : Int) + 1 + (p : Int)) = false := by simp; omega
  have q2 : ¬ gc = i := by omega
  have qw : IntKind.i64.wrap ((i : Int) + 1) = (i : Int) + 1 := by rw [IntKind.wrap_i64]; omega
  have q6 : (0 : Int) ≤ (i : Int) + 1 := by omega
  have q7 : (i : Int) + 1 ≤ (i : Int) + ((p : Int) + 2) := by omega
  have q8 : i + (p + 2) - (i + 1) = p + 1 := by omega
  have q9 : i + 1 + p - i = p + 1 := by omega
  have q10 : (i : Int) ≤ (i : Int) + 1 + (p : Int) := by omega
  have q3 : ¬ gc = i + 1 := by omega
  have q4 : i ≤ i + 1 + p := by omega
  have q5 : ¬ i + 1 + p = i := by omega
  go_enter Tryz.func56, Tryz.ntmps56
  go_wp2_with (first | (at_builtin; refine Lib.wpList_append_run _ rfl (.tmp 34) (.tmp 39) _ _ rfl _ _ rfl (show Value.int .i64 _ = Value.int .i64 _ by congr 1; omega) _ _ (happ.out _) ?_))
  go_region_law (refine step_copy_eq rfl (.tmp 50) (.tmp 53) 26 26 rfl _ _ (by simp [Act.eval, Act.put]) (by simp [Act.eval, Act.put]) _ _ (hcp2.out _) ?_)
  go_wp2
  go_ret
  obtain ⟨hg2, hB2, hW3, hrow2, hrow1, hrest, hlr, hs1, hs2, hle, ht0, hl0⟩ := S.out
  have e : i + (p + 2) = i + 1 + p + 1 := by omega
  have hl1 : (row1.toList.take ((i + 1) * 6)).length = (i + 1) * 6 := by simp; omega
  have t1 : row1.toList.take ((i + 1) * 6) = cur.toList.take (i * 6) ++ nw.enc := by
    rw [hrow1, List.toList_toArray, ht0]
    have : (cur.toList.take (i * 6) ++ nw.enc).length = (i + 1) * 6 := by rw [List.length_append, hl0, hen]; omega
    rw [List.take_append_of_le_length (by omega), List.take_of_length_le (by omega)]
  refine ⟨.slice (some ⟨w.heap.size, 0, none⟩) (i + 1 + p + 1) gc, by rw [← e]; rfl, ⟨⟨?_, .inr ⟨w.heap.size, gc, row2, rfl, Nat.zero_le _, ?_, by omega, hle, hs2, ?_⟩⟩, ?_, fun b hb => by cases hb; rfl⟩, ?_⟩
  · rw [← hrest, List.length_append, List.length_append, hl0, hen, hlr]; omega
  · rw [hW3]; exact setRow_heap W2.drew _ row1 row2 _ _ hg2
  · rw [hrow2, List.toList_toArray, t1, ← hrest]
    have : (cur.toList.take (i * 6) ++ nw.enc ++ rest).length = (i + 1 + p + 1) * 6 := by rw [List.length_append, List.length_append, hl0, hen, hlr]; omega
    rw [List.take_append_of_le_length (by omega), List.take_of_length_le (by omega)]
  · omega
  · rw [hW3]; exact below_row hB2.drew (Nat.le_refl _) _

set_option maxHeartbeats 2000000 in
theorem Insert_end (B Bv n : Nat) (nw : Fl) (cur : Array Value) (w : World) (hg : w.heap[B]? = some (.cells cur 44 (0, 0))) (hsz : cur.size = n * 6) (hn : n < 1000000)
    (hv : ∀ j u, nw.enc[j]? = some u → w.cell? ⟨Bv, j, none⟩ = some u) :
    Calls Tryz.prog 56 #[.slice (some ⟨B, 0, none⟩) n n, .int .i64 (n : Int), .slice (some ⟨Bv, 0, none⟩) 1 1] w
      fun e w' => ∃ v', e = .returned v' ∧ RowAt (fun k => k = w.heap.size) w' 44 6 v' (n + 1) (cur.toList ++ nw.enc) ∧ Below w.heap.size w w' := by
  obtain ⟨j0, hi0, hz0, hz1, hz2⟩ := info_parts infoF
  have hlc : cur.toList.length = n * 6 := by simpa using hsz
  obtain ⟨gc, row0, W1, hge, hle, hs0, ht0, hW1, happ⟩ : ∃ (gc : Nat) (row0 : Array Value) (W1 : World), n + 1 ≤ gc ∧ gc ≤ maxLen ∧ row0.size = gc * 6 ∧ row0.toList.take ((n + 1) * 6) = cur.toList ++ nw.enc ∧ W1 = w.drew.alloc (.cells row0 44) ∧ Hid (∀ ty, (Builtin.append_ #[26, 26] ty #[.slice (some ⟨B, 0, none⟩) n n, .slice (some ⟨Bv, 0, none⟩) 1 1]).run Tryz.prog w = .ok (.slice (some ⟨w.heap.size, 0, none⟩) (n + 1) gc) W1) := by
    have hr := fun ty => run_append_grow (P := Tryz.prog) w 26 ty 44 j0 _ Tryz.underlying26 hi0 hz0 ⟨B, 0, none⟩ n n cur.toList (by rw [hz1]; exact hlc) (fun j v hj => by
      rw [Addr.add_lit, Nat.zero_add]
      simpa [World.cell?, hg] using hj) ⟨Bv, 0, none⟩ 1 1 nw.enc (by rw [hz1]; rfl) (fun j v hj => by rw [Addr.add_lit, Nat.zero_add]; exact hv j v hj) (by omega) (by omega) (by rw [hz2]; exact growslice_fits (by omega) (by omega))
    refine ⟨_, _, _, grownCap_ge _ _ _ _, grownCap_le_maxLen _ _ _ _ (by unfold maxLen; omega), ?_, ?_, rfl, hr⟩
    · have := grownCap_ge w (n + 1) n 44
      simp only [Array.size_append, List.size_toArray, size_zeroCells, hlc]
      rw [show (Value.agg #[Value.string ⟨#[]⟩, .int .i64 0, .int .i64 0, .string ⟨#[]⟩, .slice none 0 0, .slice none 0 0]).cells.size = 6 from rfl, show nw.enc.length = 6 from rfl]
      omega
    · have : (cur.toList ++ nw.enc).length = (n + 1) * 6 := by rw [List.length_append, hlc, show nw.enc.length = 6 from rfl]; omega
      simp only [Array.toList_append]
      rw [← this]
      exact List.take_left
  have S := (show Hid _ from And.intro hle (And.intro hs0 (And.intro ht0 (And.intro hW1 hlc))))
  clear hg hsz hv hle hs0 ht0 hW1 hlc hi0 hz0 hz1 hz2
  go_enter Tryz.func56, Tryz.ntmps56
  go_wp2_with (first | (at_builtin; refine Lib.wpList_append_run _ rfl (.tmp 23) (.tmp 24) _ _ rfl _ _ rfl rfl _ _ (happ.out _) ?_))
  go_ret
  obtain ⟨hle, hs0, ht0, hW1, hlc⟩ := S.out
  refine ⟨.slice (some ⟨w.heap.size, 0, none⟩) (n + 1) gc, rfl, ⟨⟨?_, .inr ⟨w.heap.size, gc, row0, rfl, Nat.zero_le _, ?_, by omega, hle, hs0, ht0⟩⟩, ?_, fun b hb => by cases hb; rfl⟩, ?_⟩
  · rw [List.length_append, hlc, show nw.enc.length = 6 from rfl]; omega
  · rw [hW1]; exact heap_alloc_new w.drew _
  · omega
  · rw [hW1]; exact ((Below.refl _ _).drew).alloc (Nat.le_refl _) _
end Go.Proofs.YtgcccihnlecpnaaGreatDoor

namespace Go.Proofs.YtgcccihnlecpnaaGreatDoor
open Go.RowKit

def zeroV : V := ⟨0, 0, ⟨#[]⟩, [], []⟩
/-- the value of the first field of that name. -/
def getV (v : V) (name : ByteArray) : Option V := if v.kind = 5 then getF name v.fields else none
/-- the first field of that name is x. -/
def replF (name : ByteArray) (x : V) : List (ByteArray × V) → List (ByteArray × V)
  | [] => []
  | f :: fs => if cmpT f.1 name = 0 then (f.1, x) :: fs else f :: replF name x fs
/-- ahead of the first field whose name is above. -/
def insF (name : ByteArray) (x : V) : List (ByteArray × V) → List (ByteArray × V)
  | [] => [(name, x)]
  | f :: fs => if 0 < cmpT f.1 name then (name, x) :: f :: fs else f :: insF name x fs
def setG (name : ByteArray) (x : V) (fs : List (ByteArray × V)) : List (ByteArray × V) := if (getF name fs).isSome then replF name x fs else insF name x fs

theorem where_name (name : ByteArray) : ∀ fs : List (ByteArray × V), (whereI (isName name) fs = -1 ∧ getF name fs = none) ∨
    ∃ (j : Nat) (q : ByteArray) (x : V), whereI (isName name) fs = j ∧ fs[j]? = some (q, x) ∧ getF name fs = some x ∧ (∀ y, replF name y fs = fs.set j (q, y)) ∧ delF name fs = fs.take j ++ fs.drop (j + 1)
  | [] => .inl ⟨rfl, rfl⟩
  | f :: fs => by
    by_cases h : cmpT f.1 name = 0
    · right
      refine ⟨0, f.1, f.2, ?_, rfl, ?_, fun y => ?_, ?_⟩
      · simp [whereI, isName, h]
      · simp [getF, h]
      · simp [replF, h]
      · simp [delF, h]
    · have hn : isName name f = false := by unfold isName; exact decide_eq_false h
      rcases where_name name fs with ⟨h1, h2⟩ | ⟨j, q, x, h1, h2, h3, h4, h5⟩
      · left
        constructor
        · simp [whereI, hn, h1]
        · simp [getF, h, h2]
      · right
        refine ⟨j + 1, q, x, ?_, by simpa using h2, ?_, fun y => ?_, ?_⟩
        · simp only [whereI, hn, h1]
          rw [if_neg (by simp), if_neg (by omega)]
          omega
        · simp [getF, h, h3]
        · simp [replF, h, h4]
        · simp [delF, h, h5]
theorem where_above (name : ByteArray) (x : V) : ∀ fs : List (ByteArray × V), ∃ j : Nat, aboveI name fs = j ∧ j ≤ fs.length ∧ insF name x fs = fs.take j ++ (name, x) :: fs.drop j
  | [] => ⟨0, rfl, Nat.le_refl _, rfl⟩
  | f :: fs => by
    by_cases h : 0 < cmpT f.1 name
    · refine ⟨0, ?_, Nat.zero_le _, ?_⟩
      · simp [aboveI, whereI, isAbove, h]
      · simp [insF, h]
    · have hn : isAbove name f = false := by unfold isAbove; exact decide_eq_false h
      obtain ⟨j, h1, h2, h3⟩ := where_above name x fs
      refine ⟨j + 1, ?_, by simpa using h2, ?_⟩
      · have hr := whereI_range (isAbove name) fs
        unfold aboveI at h1 ⊢
        simp only [whereI, hn, List.length_cons, Bool.false_eq_true, if_false]
        by_cases h0 : whereI (isAbove name) fs < 0
        · rw [if_pos h0] at h1
          rw [if_pos h0, if_pos (by omega)]
          omega
        · rw [if_neg h0] at h1
          rw [if_neg h0, if_neg (by omega)]
          omega
      · simp [insF, h, h3]
theorem get_none_above {name : ByteArray} : ∀ {fs : List (ByteArray × V)} {f : ByteArray × V}, Rises (f :: fs) → 0 < cmpT f.1 name → getF name fs = none
  | [], _, _, _ => rfl
  | g :: gs, f, h, h0 => by
    have a1 := good_cmpT.anti f.1 name
    have a2 := good_cmpT.anti name g.1
    have := good_cmpT.lt_left (a := name) (b := f.1) (c := g.1) (by omega) (by have := h.1; omega)
    exact get_above h.2 (by omega)
/-- where names rise both ways are one. -/
theorem setG_eq (name : ByteArray) (x : V) : ∀ {fs}, Rises fs → setG name x fs = setF name x fs
  | [], _ => rfl
  | f :: fs, h => by
    have ih := setG_eq name x h.tail
    unfold setG at ih ⊢
    simp only [setF, getF]
    by_cases h0 : cmpT f.1 name = 0
    · simp [h0, replF]
    · simp only [h0, if_false]
      by_cases h1 : 0 < cmpT f.1 name
      · have := get_none_above h h1
        simp [h1, this, insF]
      · simp only [h1, if_false]
        rw [← ih]
        by_cases hs : (getF name fs).isSome = true
        · simp [hs, replF, h0]
        · simp [hs, insF, h1]

theorem row_below {w0 W : World} (hW : Below w0.heap.size w0 W) {b : Nat} {o : Obj} (h : w0.heap[b]? = some o) : W.heap[b]? = some o := (hW.block b (lt_of_heap h)).trans h
theorem heap_alloc3_0 {w : World} {o1 o2 o3 : Obj} : (((w.alloc o1).alloc o2).alloc o3).heap[w.heap.size]? = some o1 := by
  rw [Below.heap_alloc ((w.alloc o1).alloc o2) o3 w.heap.size (by simp; omega)]; exact heap_alloc2_old
theorem heap_alloc3_1 {w : World} {o1 o2 o3 : Obj} : (((w.alloc o1).alloc o2).alloc o3).heap[w.heap.size + 1]? = some o2 := by
  rw [Below.heap_alloc ((w.alloc o1).alloc o2) o3 (w.heap.size + 1) (by simp)]; exact heap_alloc2_new
theorem heap_alloc3_2 {w : World} {o1 o2 o3 : Obj} : (((w.alloc o1).alloc o2).alloc o3).heap[w.heap.size + 2]? = some o3 := by
  have := heap_alloc_new ((w.alloc o1).alloc o2) o3
  simpa using this

/-- what Get answers, where it lies. -/
def GotV (m : Nat) (w w' : World) (x : V) (l' f' : Value) : Prop := Rep (fun k => w.heap.size ≤ k) m w' x l' f' ∧ Below w.heap.size w w'

end Go.Proofs.YtgcccihnlecpnaaGreatDoor

namespace Go.Proofs.YtgcccihnlecpnaaGreatDoor
open Go.RowKit

/-- a row that is full, and where it lies. -/
theorem RowAt.full {W : World} {B n : Nat} {s : Value} {xs : List Value} {t : Nat} (h : RowAt (fun k => k = B) W t 6 s n xs) (hc : ∀ a m c, s = .slice a m c → c = m) (hn : 0 < n ∨ s ≠ .slice none 0 0) : s = .slice (some ⟨B, 0, none⟩) n n ∧ ∃ cur, W.heap[B]? = some (.cells cur t (0, 0)) ∧ cur.toList = xs := by
  obtain ⟨⟨h1, h2⟩, h3, h4⟩ := h
  rcases h2 with ⟨rfl, h5⟩ | ⟨g, cap, cur, rfl, _, hg, h5, h6, h7, h8⟩
  · rcases hn with hn | hn
    · omega
    · exact absurd rfl hn
  · have e1 := h4 g rfl
    have e2 := hc _ _ _ rfl
    subst e1 e2
    refine ⟨rfl, cur, hg, ?_⟩
    rw [← h8, List.take_of_length_le (by simp; omega)]
theorem encFs_set (fs : List Fl) (j : Nat) (e e' : Fl) (h : fs[j]? = some e) : encFs (fs.set j e') = encFs (fs.take j) ++ e'.enc ++ encFs (fs.drop (j + 1)) ∧ encFs fs = encFs (fs.take j) ++ e.enc ++ encFs (fs.drop (j + 1)) := by
  have hj : j < fs.length := (List.getElem?_eq_some_iff.1 h).1
  have e1 : fs.set j e' = fs.take j ++ e' :: fs.drop (j + 1) := by rw [List.set_eq_take_append_cons_drop, if_pos hj]
  have e2 : fs = fs.take j ++ e :: fs.drop (j + 1) := by
    have h3 := (List.getElem?_eq_some_iff.1 h).2
    rw [← h3, ← List.drop_eq_getElem_cons hj, List.take_append_drop]
  constructor
  · rw [e1, encFs_append, List.append_assoc]; rfl
  · have h4 : encFs fs = encFs (fs.take j ++ e :: fs.drop (j + 1)) := congrArg encFs e2
    rw [h4, encFs_append, List.append_assoc]; rfl
/-- the value of a field is written in place. -/
theorem row_set {W : World} {B j : Nat} {cur : Array Value} {fs : List Fl} {e : Fl} (hg : W.heap[B]? = some (.cells cur 44 (0, 0))) (hcur : cur.toList = encFs fs) (h : fs[j]? = some e) (v : V) (l f : Value) :
    ∃ cur', (((((W.setCell ⟨B, j * 6 + 1, none⟩ (.int .i64 v.kind)).setCell ⟨B, j * 6 + 2, none⟩ (.int .i64 v.num)).setCell ⟨B, j * 6 + 3, none⟩ (.string v.text)).setCell ⟨B, j * 6 + 4, none⟩ l).setCell ⟨B, j * 6 + 5, none⟩ f).heap[B]? = some (.cells cur' 44 (0, 0)) ∧ cur'.toList = encFs (fs.set j ⟨e.name, v, l, f⟩) := by
  have hj : j < fs.length := (List.getElem?_eq_some_iff.1 h).1
  have hsz : cur.size = fs.length * 6 := by rw [← Array.length_toList, hcur, encFs_length]
  obtain ⟨h1, h2⟩ := encFs_set fs j e ⟨e.name, v, l, f⟩ h
  have hX : (encFs (fs.take j)).length = j * 6 := by rw [encFs_length, List.length_take]; congr 1; omega
  refine ⟨_, set5 hg (i := j * 6 + 1) (by omega) _ _ _ _ _, ?_⟩
  rw [List.toList_toArray, hcur, h1]
  rw [h2]
  obtain ⟨en, ev, el, ef⟩ := e
  have a1 : List.take (j * 6 + 1) (encFs (fs.take j) ++ Fl.enc ⟨en, ev, el, ef⟩ ++ encFs (fs.drop (j + 1))) = encFs (fs.take j) ++ [.string en] := by
    have : (encFs (fs.take j) ++ [Value.string en]).length = j * 6 + 1 := by simp [hX]
    rw [← this, show encFs (fs.take j) ++ Fl.enc ⟨en, ev, el, ef⟩ ++ encFs (fs.drop (j + 1)) = (encFs (fs.take j) ++ [Value.string en]) ++ ([.int .i64 ev.kind, .int .i64 ev.num, .string ev.text, el, ef] ++ encFs (fs.drop (j + 1))) by simp [Fl.enc], List.take_left]
  have a2 : List.drop (j * 6 + 1 + 5) (encFs (fs.take j) ++ Fl.enc ⟨en, ev, el, ef⟩ ++ encFs (fs.drop (j + 1))) = encFs (fs.drop (j + 1)) := by
    have : (encFs (fs.take j) ++ Fl.enc ⟨en, ev, el, ef⟩).length = j * 6 + 1 + 5 := by rw [List.length_append, hX]; rfl
    rw [← this, List.drop_left]
  rw [a1, a2]
  simp [Fl.enc]

/-- five cells of one block, written. -/
def set5W (W : World) (B i0 i1 i2 i3 i4 : Nat) (a0 a1 a2 a3 a4 : Value) : World := ((((W.setCell ⟨B, i0, none⟩ a0).setCell ⟨B, i1, none⟩ a1).setCell ⟨B, i2, none⟩ a2).setCell ⟨B, i3, none⟩ a3).setCell ⟨B, i4, none⟩ a4
theorem set5W_ne (W : World) (B i0 i1 i2 i3 i4 : Nat) (a0 a1 a2 a3 a4 : Value) {k : Nat} (h : k ≠ B) : (set5W W B i0 i1 i2 i3 i4 a0 a1 a2 a3 a4).heap[k]? = W.heap[k]? := by
  unfold set5W
  rw [heap_setCell_ne _ _ _ h, heap_setCell_ne _ _ _ h, heap_setCell_ne _ _ _ h, heap_setCell_ne _ _ _ h, heap_setCell_ne _ _ _ h]
theorem set5W_size (W : World) (B i0 i1 i2 i3 i4 : Nat) (a0 a1 a2 a3 a4 : Value) : (set5W W B i0 i1 i2 i3 i4 a0 a1 a2 a3 a4).heap.size = W.heap.size := by simp [set5W]
theorem set5W_below {w W : World} {C B : Nat} (hb : Below C w W) (h : C ≤ B) (i0 i1 i2 i3 i4 : Nat) (a0 a1 a2 a3 a4 : Value) : Below C w (set5W W B i0 i1 i2 i3 i4 a0 a1 a2 a3 a4) :=
  ((((hb.setCell h _).setCell h _).setCell h _).setCell h _).setCell h _

set_option maxHeartbeats 1000000 in
theorem Set_other (n : Nat) (v x : V) (l f xl xf : Value) (name : ByteArray) (w : World) (hv : Lies n w v l f) (hx : Lies n w x xl xf) (hk : ¬ v.kind = 5) :
    Calls Tryz.prog 39 #[.agg #[.int .i64 v.kind, .int .i64 v.num, .string v.text, l, f], .string name, .agg #[.int .i64 x.kind, .int .i64 x.num, .string x.text, xl, xf]] w fun r w' => ∃ l' f', r = .returned (.agg #[.int .i64 v.kind, .int .i64 v.num, .string v.text, l', f']) ∧ GotV (n + 1) w w' v l' f' := by
  have hB : ∀ (o1 o2 o3 : Obj), Below w.heap.size w (((w.alloc o1).alloc o2).alloc o3) := fun o1 o2 o3 => (((Below.refl _ _).alloc (Nat.le_refl _) _).alloc (by simp) _).alloc (by simp; omega) _
  have hcall := fun W (hW : Below w.heap.size w W) => twinValue_any n v l f W (hv.below hW)
  obtain ⟨a1, c1, a3, c3, rfl, rfl⟩ := Rep.slices hv
  obtain ⟨a5, c5, a7, c7, rfl, rfl⟩ := Rep.slices hx
  have hk' : (v.kind != 5) = true := by simpa using hk
  clear hv hx
  go_enter Tryz.func39, Tryz.ntmps39
  go_wp2_with fail
  refine (hcall _ (hB _ _ _)).mono ?_
  rintro e w1 ⟨l', f', rfl, hcp, hb1⟩
  have hrep := hcp.rep
  obtain ⟨al', cl', af', cf', rfl, rfl⟩ := hrep.slices
  have p1 := row_below hb1 heap_alloc3_0
  have q1 := row_below hb1 heap_alloc3_2
  obtain ⟨k0, k1, k2, k3, k4, kf⟩ := row5 p1
  obtain ⟨o0, o1, o2, o3, o4, of⟩ := row5 q1
  have hz1 : w.heap.size + 2 < w1.heap.size := lt_of_heap q1
  have hz2 : w.heap.size < w1.heap.size := lt_of_heap p1
  have hB1 : Below w.heap.size w w1 := (hB _ _ _).trans (hb1.mono (hB _ _ _).size)
  have S := (show Hid _ from And.intro hrep hb1)
  clear hcp hrep hb1 p1 q1
  go_wp2
  refine bodyPost_ret (v := .agg #[.int .i64 v.kind, .int .i64 v.num, .string v.text, .slice al' v.list.length cl', .slice af' v.fields.length cf']) (by simp [results, Tryz.results39, go_sem, o0, o1, o2, o3, o4, hz1]) rfl ⟨_, _, rfl, ?_, ?_⟩
  · obtain ⟨hrep, hb1⟩ := S.out
    refine hrep.move fun b hb hl => ⟨?_, ?_⟩
    · simp at hb; omega
    · rw [Below.heap_alloc _ _ b (by simpa using hl)]
      exact set5W_ne w1 (w.heap.size + 1 + 1) 0 1 2 3 4 _ _ _ _ _ (by simp at hb; omega)
  · exact (set5W_below hB1 (by omega) 0 1 2 3 4 _ _ _ _ _).alloc (by rw [set5W_size]; omega) _
end Go.Proofs.YtgcccihnlecpnaaGreatDoor
