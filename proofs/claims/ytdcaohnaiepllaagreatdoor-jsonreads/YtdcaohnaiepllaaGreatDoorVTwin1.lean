/-
  Rows that are written in place; package twin's list by its contract. No conditions beyond those stated.
-/
import Derived.Test.YtdcaohnaiepllaaGreatDoorVMem
import Derived.Deep.LoopGhost
import Derived.Deep.RegionWith
import Derived.WalkLawsBesides
import Derived.WalkSpells
import Derived.Lib.LazyBuf
namespace Go.Proofs.YtdcaohnaiepllaaGreatDoor
open Go.RowKit

theorem infoV : (Tryz.prog.info? 31).map (fun i => (i.zero, i.size, i.bytes)) = some (some (.agg #[.int .i64 0, .int .i64 0, .string ⟨#[]⟩, .slice none 0 0, .slice none 0 0]), 5, 80) := by kernel_rfl
theorem infoF : (Tryz.prog.info? 49).map (fun i => (i.zero, i.size, i.bytes)) = some (some (.agg #[.string ⟨#[]⟩, .int .i64 0, .int .i64 0, .string ⟨#[]⟩, .slice none 0 0, .slice none 0 0]), 6, 96) := by kernel_rfl

theorem make_rows {t e : TypeId} {z : Value} {size bytes : Nat} (ht : Tryz.prog.underlying t = some (.slice e)) (hinfo : (Tryz.prog.info? e).map (fun i => (i.zero, i.size, i.bytes)) = some (some z, size, bytes)) (n : Nat) (hb : bytes * n ≤ 281474976710656) (h63 : n ≤ 9223372036854775807) (w : World) :
    (Instr.makeSlice t (.int .i64 (n : Int)) (.int .i64 (n : Int))).run Tryz.prog w = .ok (.slice (some ⟨w.heap.size, 0, none⟩) n n) (w.alloc (.cells (madeCells z.cells (n * size)) e)) := by
  obtain ⟨i, hi, hzz⟩ := Option.map_eq_some_iff.1 hinfo
  simp only [Prod.mk.injEq] at hzz
  obtain ⟨hz, hs, hby⟩ := hzz
  subst hs hby
  have hb' : (i.bytes : Int) * (n : Int) ≤ 281474976710656 := by
    have h : ((i.bytes * n : Nat) : Int) ≤ 281474976710656 := by omega
    rwa [Int.natCast_mul] at h
  have hr := run_make (P := Tryz.prog) w t e i z ht hi hz .i64 .i64 n n (by omega) (Int.le_refl _) hb' (by omega)
  simpa only [Int.toNat_natCast] using hr

section
variable {W : World} {B t : Nat} {fr : Nat × Nat} {cur : Array Value} {i : Nat}
theorem set5_eq (h : i + 5 ≤ cur.size) (a0 a1 a2 a3 a4 : Value) : (((((cur.setIfInBounds i a0).setIfInBounds (i + 1) a1).setIfInBounds (i + 2) a2).setIfInBounds (i + 3) a3).setIfInBounds (i + 4) a4).toList = cur.toList.take i ++ [a0, a1, a2, a3, a4] ++ cur.toList.drop (i + 5) := by
  have hl : i + 5 ≤ cur.toList.length := by simpa using h
  simp only [Array.toList_setIfInBounds]
  have s1 := list_seg_step cur.toList i a0 [a1, a2, a3, a4] (by simpa using hl)
  have s2 := list_seg_step (cur.toList.set i a0) (i + 1) a1 [a2, a3, a4] (by simp; omega)
  have s3 := list_seg_step ((cur.toList.set i a0).set (i + 1) a1) (i + 2) a2 [a3, a4] (by simp; omega)
  have s4 := list_seg_step (((cur.toList.set i a0).set (i + 1) a1).set (i + 2) a2) (i + 3) a3 [a4] (by simp; omega)
  have s5 := list_seg_step ((((cur.toList.set i a0).set (i + 1) a1).set (i + 2) a2).set (i + 3) a3) (i + 4) a4 [] (by simp; omega)
  simp only [List.length_cons, List.length_nil, Nat.add_assoc, Nat.reduceAdd, List.append_nil, List.take_append_drop] at s1 s2 s3 s4 s5
  rw [s5, s4, s3, s2, s1]
theorem set6_eq (h : i + 6 ≤ cur.size) (a0 a1 a2 a3 a4 a5 : Value) : ((((((cur.setIfInBounds i a0).setIfInBounds (i + 1) a1).setIfInBounds (i + 2) a2).setIfInBounds (i + 3) a3).setIfInBounds (i + 4) a4).setIfInBounds (i + 5) a5).toList = cur.toList.take i ++ [a0, a1, a2, a3, a4, a5] ++ cur.toList.drop (i + 6) := by
  have hl : i + 6 ≤ cur.toList.length := by simpa using h
  simp only [Array.toList_setIfInBounds]
  have s1 := list_seg_step cur.toList i a0 [a1, a2, a3, a4, a5] (by simpa using hl)
  have s2 := list_seg_step (cur.toList.set i a0) (i + 1) a1 [a2, a3, a4, a5] (by simp; omega)
  have s3 := list_seg_step ((cur.toList.set i a0).set (i + 1) a1) (i + 2) a2 [a3, a4, a5] (by simp; omega)
  have s4 := list_seg_step (((cur.toList.set i a0).set (i + 1) a1).set (i + 2) a2) (i + 3) a3 [a4, a5] (by simp; omega)
  have s5 := list_seg_step ((((cur.toList.set i a0).set (i + 1) a1).set (i + 2) a2).set (i + 3) a3) (i + 4) a4 [a5] (by simp; omega)
  have s6 := list_seg_step (((((cur.toList.set i a0).set (i + 1) a1).set (i + 2) a2).set (i + 3) a3).set (i + 4) a4) (i + 5) a5 [] (by simp; omega)
  simp only [List.length_cons, List.length_nil, Nat.add_assoc, Nat.reduceAdd, List.append_nil, List.take_append_drop] at s1 s2 s3 s4 s5 s6
  rw [s6, s5, s4, s3, s2, s1]
theorem setCell_row (hg : W.heap[B]? = some (.cells cur t fr)) (v : Value) : (W.setCell ⟨B, i, none⟩ v).heap[B]? = some (.cells (cur.setIfInBounds i v) t fr) := by
  rw [setCell_eq_setRow W B i cur t fr v hg]
  exact setRow_heap W B cur _ t fr hg
/-- five cells of a row, written one behind the other. -/
theorem set5 (hg : W.heap[B]? = some (.cells cur t fr)) (h : i + 5 ≤ cur.size) (a0 a1 a2 a3 a4 : Value) :
    (((((W.setCell ⟨B, i, none⟩ a0).setCell ⟨B, i + 1, none⟩ a1).setCell ⟨B, i + 2, none⟩ a2).setCell ⟨B, i + 3, none⟩ a3).setCell ⟨B, i + 4, none⟩ a4).heap[B]? = some (.cells (cur.toList.take i ++ [a0, a1, a2, a3, a4] ++ cur.toList.drop (i + 5)).toArray t fr) := by
  rw [setCell_row (setCell_row (setCell_row (setCell_row (setCell_row hg a0) a1) a2) a3) a4, ← set5_eq h]
theorem set6 (hg : W.heap[B]? = some (.cells cur t fr)) (h : i + 6 ≤ cur.size) (a0 a1 a2 a3 a4 a5 : Value) :
    ((((((W.setCell ⟨B, i, none⟩ a0).setCell ⟨B, i + 1, none⟩ a1).setCell ⟨B, i + 2, none⟩ a2).setCell ⟨B, i + 3, none⟩ a3).setCell ⟨B, i + 4, none⟩ a4).setCell ⟨B, i + 5, none⟩ a5).heap[B]? = some (.cells (cur.toList.take i ++ [a0, a1, a2, a3, a4, a5] ++ cur.toList.drop (i + 6)).toArray t fr) := by
  rw [setCell_row (setCell_row (setCell_row (setCell_row (setCell_row (setCell_row hg a0) a1) a2) a3) a4) a5, ← set6_eq h]
theorem cell_row (hg : W.heap[B]? = some (.cells cur t fr)) (h : i < cur.size) : ∃ v, W.cell? ⟨B, i, none⟩ = some v := ⟨cur[i], by simp [World.cell?, hg, h]⟩
theorem frozen_row (hg : W.heap[B]? = some (.cells cur t (0, 0))) (j : Nat) : W.frozen? ⟨B, j, none⟩ = false := by simp [World.frozen?, hg]
end

theorem heap_setCell_ne (W : World) (a : Addr) (v : Value) {k : Nat} (h : k ≠ a.block) : (W.setCell a v).heap[k]? = W.heap[k]? := Below.heap_setCell W a v k h

theorem encEs_append (xs ys : List El) : encEs (xs ++ ys) = encEs xs ++ encEs ys := List.flatMap_append
theorem encFs_append (xs ys : List Fl) : encFs (xs ++ ys) = encFs xs ++ encFs ys := List.flatMap_append

/-- what a copy's row is while it is made: so many are done. -/
structure PartV (W : World) (B n k : Nat) (ds : List El) : Prop where
  len : ds.length = k
  row : ∃ cur, W.heap[B]? = some (.cells cur 31 (0, 0)) ∧ cur.size = n * 5 ∧ cur.toList.take (k * 5) = encEs ds

theorem PartV.step {W : World} {B n k : Nat} {ds : List El} (h : PartV W B n k ds) (hk : k < n) (v : V) (l f : Value) :
    PartV (((((W.setCell ⟨B, k * 5, none⟩ (.int .i64 v.kind)).setCell ⟨B, k * 5 + 1, none⟩ (.int .i64 v.num)).setCell ⟨B, k * 5 + 2, none⟩ (.string v.text)).setCell ⟨B, k * 5 + 3, none⟩ l).setCell ⟨B, k * 5 + 4, none⟩ f) B n (k + 1) (ds ++ [⟨v, l, f⟩]) := by
  obtain ⟨hl, cur, h1, h2, h3⟩ := h
  refine ⟨by simp [hl], _, set5 h1 (by omega) _ _ _ _ _, ?_, ?_⟩
  · simp; omega
  · rw [h3, encEs_append]
    have e : (encEs ds).length = k * 5 := by rw [encEs_length, hl]
    have e2 : (encEs ds ++ [Value.int .i64 v.kind, .int .i64 v.num, .string v.text, l, f]).length = (k + 1) * 5 := by rw [List.length_append, e]; simp; omega
    show List.take ((k + 1) * 5) (encEs ds ++ [Value.int .i64 v.kind, .int .i64 v.num, .string v.text, l, f] ++ cur.toList.drop (k * 5 + 5)) = _
    rw [← e2, List.take_left]
    rfl
theorem PartV.keep {W W' : World} {B n k : Nat} {ds : List El} (h : PartV W B n k ds) (hb : W'.heap[B]? = W.heap[B]?) : PartV W' B n k ds := by
  obtain ⟨hl, cur, h1, h2, h3⟩ := h
  exact ⟨hl, cur, hb.trans h1, h2, h3⟩
theorem PartV.done {W : World} {B n : Nat} {ds : List El} (h : PartV W B n n ds) (hn : n ≤ 1000000) {ok : Nat → Prop} (hB : ok B) : RowAt ok W 31 5 (.slice (some ⟨B, 0, none⟩) n n) ds.length (encEs ds) := by
  obtain ⟨hl, cur, h1, h2, h3⟩ := h
  subst hl
  exact ⟨⟨encEs_length ds, .inr ⟨B, _, cur, rfl, Nat.zero_le _, h1, Nat.le_refl _, by unfold maxLen; omega, h2, h3⟩⟩, hn, fun b hb => by cases hb; exact hB⟩

/-- a copy of a list, in memory of its own. -/
def CopyL (m : Nat) (w w' : World) (es : List El) (l' : Value) : Prop :=
  ∃ es' : List El, es'.map El.v = es.map El.v ∧ RowAt (fun k => w.heap.size ≤ k) w' 31 5 l' es'.length (encEs es') ∧ ∀ e ∈ es', Rep (fun k => w.heap.size ≤ k) m w' e.v e.l e.f

end Go.Proofs.YtdcaohnaiepllaaGreatDoor
