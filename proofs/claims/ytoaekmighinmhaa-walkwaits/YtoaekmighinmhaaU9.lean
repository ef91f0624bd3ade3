/-
  slices.Delete at entries that a caller owns: some of them, from a place on. No conditions beyond those stated.
  A region whose last operation waits for all others: the region of the others, in any order, then that operation. No conditions beyond those stated.
  A region whose last operation waits for all others, be it by way of others: the region of the others, in any order, then that operation. No conditions beyond those stated.
  slices.Clone at entries; take and cut by their contracts. Conditions: as stated.
-/
import Derived.Test.YtoaekmighinmhaaU2
import Derived.Test.YtoaekmighinmhaaU1
import Derived.StillTail
import Derived.Deep.RegionHeld3
import Derived.Test.YtoaekmighinmhaaU4
import Derived.Lib.LazyBuf
namespace Go.Proofs.Ytoaekmighinmhaa
open Go.RowKit

theorem zeroCells_lenE (n : Nat) : (Builtin.zeroCells (Value.agg #[Value.string ⟨#[]⟩, .int .i64 0]).cells n).toList.length = n * 2 := by
  have := size_zeroCells (Value.agg #[Value.string ⟨#[]⟩, .int .i64 0]).cells n
  rw [Array.length_toList, this]; rfl
theorem zeroCells_oneE (n : Nat) : ∀ v ∈ (Builtin.zeroCells (Value.agg #[Value.string ⟨#[]⟩, .int .i64 0]).cells n).toList, v.oneCell' = true := by
  intro v hv
  simp only [Builtin.zeroCells, Array.mem_toList_iff, Array.mem_map, Array.mem_range] at hv
  obtain ⟨r, _, rfl⟩ := hv
  have hr : r % 2 < 2 := Nat.mod_lt _ (by omega)
  have : ∀ q, q < 2 → (#[Value.string ⟨#[]⟩, .int .i64 0][q]!).oneCell' = true := by
    intro q hq
    match q, hq with
    | 0, _ => rfl
    | 1, _ => rfl
  exact this _ hr
theorem clear_rowsE {W : World} {B o n c : Nat} {cur : Array Value} (hg : W.heap[B]? = some (.cells cur 34 (0, 0))) (h : o + (n + 1) * 2 ≤ cur.size) :
    ∃ cs, cs.length = (n + 1) * 2 ∧ ∀ ty, (Builtin.clear_ #[25] ty #[.slice (some ⟨B, o, none⟩) (n + 1) c]).run Try.prog W = .ok (.tuple #[]) (W.setRow B (cur.toList.take o ++ cs ++ cur.toList.drop (o + (n + 1) * 2)).toArray) := by
  obtain ⟨i, hi, hz, hs, hby⟩ := info_parts infoE
  refine ⟨(Builtin.zeroCells (Value.agg #[Value.string ⟨#[]⟩, .int .i64 0]).cells (n + 1)).toList, zeroCells_lenE (n + 1), ?_⟩
  have hl := zeroCells_lenE (n + 1)
  have hst := run_storeCells_at Try.prog B o 34 _ 0 cur W hg (by rw [hl]; simpa using h) (zeroCells_oneE (n + 1))
  rw [hl] at hst
  simp only [Nat.add_zero] at hst
  intro ty
  simp [Builtin.clear_, run_underlying Try.underlying25, zeroValue, typeInfo, hi, hz, hst]

set_option maxHeartbeats 2000000 in
theorem Delete_rowsE (B i k m q : Nat) (w : World) (cur : Array Value) (hg : w.heap[B]? = some (.cells cur 34 (0, 0))) (hmq : m ≤ q) (hsz : cur.size = (i + (k + 1) + q) * 2) (hone : ∀ u ∈ (cur.toList.take ((i + (k + 1) + m) * 2)), u.oneCell' = true) (hn : i + (k + 1) + q ≤ 9223372036854775807) :
    Calls Try.prog 50 #[.slice (some ⟨B, 0, none⟩) (i + (k + 1) + m) (i + (k + 1) + q), .int .i64 (i : Int), .int .i64 ((i : Int) + ((k : Int) + 1))] w
      fun e w' => e = .returned (.slice (some ⟨B, 0, none⟩) (i + m) (i + (k + 1) + q)) ∧ (∃ cur', w'.heap[B]? = some (.cells cur' 34 (0, 0)) ∧ cur'.size = (i + (k + 1) + q) * 2 ∧ cur'.toList.take ((i + m) * 2) = cur.toList.take (i * 2) ++ (cur.toList.take ((i + (k + 1) + m) * 2)).drop ((i + (k + 1)) * 2)) ∧ w.grownBy w' (some B) := by
  obtain ⟨j0, hi0, hz0, hz1, hz2⟩ := info_parts infoE
  have hic : i ≤ i + (k + 1) + m := by omega
  have hjc : i + (k + 1) ≤ i + (k + 1) + m := by omega
  have hmc : i + (k + 1) + m ≤ i + (k + 1) + q := by omega
  have zi1 : (0 : Int) ≤ (i : Int) + ((k : Int) + 1) := by omega
  have zi3 : (i : Int) ≤ (i : Int) + ((k : Int) + 1) + (m : Int) := by omega
  have zi2 : (i : Int) + ((k : Int) + 1) ≤ (i : Int) + ((k : Int) + 1) + (m : Int) := by omega
  have zi4 : (i : Int) + ((k : Int) + 1) + (m : Int) ≤ (i : Int) + ((k : Int) + 1) + (q : Int) := by omega
  have zi5 : (i : Int) ≤ (i : Int) + ((k : Int) + 1) + (q : Int) := by omega
  have zi6 : (i : Int) ≤ (i : Int) + ((k : Int) + 1) := by omega
  have zi7 : ((i : Int) == (i : Int) + ((k : Int) + 1)) = false := by simp; omega
  have zi8 : ((i : Int) + ((k : Int) + 1)).toNat = i + (k + 1) := by omega
  obtain ⟨news, hnews⟩ : ∃ news, news = (cur.toList.take ((i + (k + 1) + m) * 2)).drop ((i + (k + 1)) * 2) := ⟨_, rfl⟩
  have hlen : news.length = m * 2 := by rw [hnews]; simp; omega
  obtain ⟨A, hA, hsrc⟩ : ∃ A : Addr, (if q = 0 then some (⟨B, 0, none⟩ : Addr) else some ⟨B, (i + (k + 1)) * 2, none⟩) = some A ∧ Hid (∀ t u, news[t]? = some u → w.drew.cell? (A.add t) = some u) := by
    by_cases h : q = 0
    · refine ⟨⟨B, 0, none⟩, by rw [if_pos h], fun t u hu => ?_⟩
      have h0 : news.length = 0 := by rw [hlen]; omega
      rw [List.length_eq_zero_iff.1 h0] at hu
      simp at hu
    · refine ⟨⟨B, (i + (k + 1)) * 2, none⟩, by rw [if_neg h], fun t u hu => ?_⟩
      rw [Addr.add_lit]
      rw [hnews, List.getElem?_drop, List.getElem?_take] at hu
      split at hu
      · show w.cell? _ = _
        simpa [World.cell?, hg] using hu
      · cases hu
  obtain ⟨row1, hrow1⟩ : ∃ row1, row1 = (cur.toList.take (i * 2) ++ news ++ cur.toList.drop (i * 2 + news.length)).toArray := ⟨_, rfl⟩
  have hs1 : row1.size = (i + (k + 1) + q) * 2 := by rw [hrow1]; simp; omega
  obtain ⟨W1, hW1⟩ : ∃ W1, W1 = w.drew.setRow B row1 := ⟨_, rfl⟩
  have happ : Hid (∀ ty, (Builtin.append_ #[25, 25] ty #[.slice (some ⟨B, 0, none⟩) i (i + (k + 1) + q), .slice (some A) m q]).run Try.prog w.drew = .ok (.slice (some ⟨B, 0, none⟩) (i + m) (i + (k + 1) + q)) W1) := by
    intro ty
    have := run_append_room (P := Try.prog) w.drew 25 ty 34 j0 Try.underlying25 hi0 B i (i + (k + 1) + q) cur hg A m q news (by rw [hz1]; omega) hsrc.out (by intro u hu; rw [hnews] at hu; exact hone u (List.mem_of_mem_drop hu)) (by omega) (by rw [hz1, hlen, hsz]; omega)
    rw [this, hz1, hW1, hrow1]
    
  have hg1 : W1.heap[B]? = some (.cells row1 34 (0, 0)) := by rw [hW1]; exact setRow_heap w.drew B cur row1 _ _ hg
  have e8 : i + (k + 1) + m - (i + m) = k + 1 := by omega
  obtain ⟨zs, hzl, hcl⟩ := clear_rowsE (W := W1) (B := B) (o := (i + m) * 2) (n := k) (c := i + (k + 1) + q - (i + m)) hg1 (by rw [hs1]; omega)
  obtain ⟨row2, hrow2⟩ : ∃ row2, row2 = (row1.toList.take ((i + m) * 2) ++ zs ++ row1.toList.drop ((i + m) * 2 + (k + 1) * 2)).toArray := ⟨_, rfl⟩
  rw [← hrow2] at hcl
  have e2 : ¬ i + (k + 1) + q = i + m := by omega
  have e3 : ¬ i + (k + 1) + q ≤ i + m := by omega
  have e4 : i + m ≤ i + (k + 1) + m := by omega
  have e5 : (i : Int) + (m : Int) ≤ (i : Int) + ((k : Int) + 1) + (m : Int) := by omega
  have e6 : (0 : Int) ≤ (i : Int) + ((k : Int) + 1) + (m : Int) := by omega
  have e7 : (0 : Int) ≤ (i : Int) + (m : Int) := by omega
  have S := (show Hid _ from And.intro hg1 (And.intro hs1 (And.intro hrow1 (And.intro hrow2 (And.intro hW1 (And.intro hnews (And.intro hlen (And.intro hzl hsz))))))))
  clear hg1 hs1 hrow1 hrow2 hW1 hnews hlen hzl hsrc hsz hone hi0 hz0 hz1 hz2
  go_enter Try.func50, Try.ntmps50
  go_wp2_with fail
  go_region_law (refine step_append_eq rfl (.tmp 22) (.tmp 25) 25 25 rfl _ _ (by simp [Act.eval, Act.put]) (by simp [Act.eval, Act.put]) _ _ (happ.out _) ?_)
  go_wp2
  go_ret
  obtain ⟨hg1, hs1, hrow1, hrow2, hW1, hnews, hlen, hzl, hsz⟩ := S.out
  have hl1 : (row1.toList.take ((i + m) * 2)).length = (i + m) * 2 := by simp; omega
  refine ⟨rfl, ⟨row2, setRow_heap W1 B row1 row2 _ _ hg1, ?_, ?_⟩, ?_⟩
  · rw [hrow2]; simp; omega
  · rw [hrow2, List.toList_toArray, List.append_assoc, List.take_append_of_le_length (by omega), List.take_of_length_le (by omega), hrow1, List.toList_toArray]
    have hl2 : (cur.toList.take (i * 2) ++ news).length = (i + m) * 2 := by simp; omega
    rw [List.take_append_of_le_length (by omega), List.take_of_length_le (by omega), hnews]
  · rw [hW1, setRow_setRow]
    exact ⟨rfl, rfl, rfl, by simp, fun k _ hk => setRow_other w.drew B k _ (fun e => hk (by rw [e]))⟩
/-- some are taken out of a row. -/
theorem Delete_anyE (xs : List En) (s : Value) (base i k : Nat) (w : World) (h : w.ownsRow base 34 2 s xs.length (encEns xs)) (hi : i + (k + 1) ≤ xs.length) :
    Calls Try.prog 50 #[s, .int .i64 (i : Int), .int .i64 ((i : Int) + ((k : Int) + 1))] w
      fun e w' => ∃ s', e = .returned s' ∧ w'.ownsRow base 34 2 s' (xs.take i ++ xs.drop (i + (k + 1))).length (encEns (xs.take i ++ xs.drop (i + (k + 1)))) ∧ s'.ownBlock = s.ownBlock ∧ w.grownBy w' s.ownBlock := by
  rcases own_ofE h with ⟨hl, ⟨rfl, hz⟩ | ⟨B, c, cur, rfl, hb, hg, hc1, hc2, hs, ht⟩⟩
  · omega
  obtain ⟨m, hm⟩ : ∃ m, xs.length = i + (k + 1) + m := ⟨xs.length - (i + (k + 1)), by omega⟩
  obtain ⟨q, hq⟩ : ∃ q, c = i + (k + 1) + q := ⟨c - (i + (k + 1)), by omega⟩
  subst hq
  have hlen : (xs.take i ++ xs.drop (i + (k + 1))).length = i + m := by simp; omega
  have hd := Delete_rowsE B i k m q w cur hg (by omega) hs (by rw [← hm, ht]; exact encEns_one xs) (by unfold maxLen at hc2; omega)
  rw [hm]
  refine hd.mono ?_
  rintro e w' ⟨rfl, ⟨cur', h1, h2, h3⟩, h4⟩
  refine ⟨_, rfl, ?_, rfl, h4⟩
  rw [hlen]
  refine own_toE ⟨by rw [encEns_len, hlen], .inr ⟨B, _, cur', rfl, hb, h1, by omega, hc2, h2, ?_⟩⟩
  rw [h3, encEns_append, ← encEns_take, ← encEns_drop, ← hm, ht]
  congr 1
  rw [← ht, List.take_take]
  congr 1
  omega
end Go.Proofs.Ytoaekmighinmhaa

namespace Go.Proofs.Ytoaekmighinmhaa
open Go.RowKit

def HeadPost (T : Act → World → Prop) : Exit → Act → World → Prop
  | .normal, a, w => T a w
  | _, _, _ => False

section
variable {P : Program} {md : Region.Mode} {head : Array Oper} {last : Oper} {Q : Exit → Act → World → Prop} {T : Act → World → Prop}

theorem wp_headPost {o : Oper} {a : Act} {w : World} {K : Act → World → Prop} (hh : o.wp P a w K (HeadPost T)) : o.wp P a w K Q := by
  unfold Oper.wp at *
  generalize (execOp a.eval o).run P w = r at *
  cases r with
  | ok n w' =>
    cases n <;> simp only [Oper.upon] at hh ⊢ <;>
      first
        | exact hh
        | exact Calls.mono hh (fun e w'' he => by cases e <;> first | exact he | exact he.elim | (obtain ⟨_, _, h⟩ := he; exact h.elim))
        | exact Rows.mono hh (fun _ _ he => he)
  | halt x w' => cases x <;> simp only [Oper.upon] at hh ⊢ <;> first | exact hh | exact hh.elim

theorem wpOp_head {i : Nat} {a : Act} {w : World} {K : Act → World → Prop} (hi : i < head.size) (hg : ∀ (i : Nat) (o : Oper), head[i]? = some o → o.guard = none) (hh : wpOp P head (HeadPost T) i K a w) : wpOp P (head.push last) Q i K a w := by
  have h1 : head[i]? = some head[i] := Array.getElem?_eq_getElem hi
  have h2 : (head.push last)[i]? = some head[i] := by rw [Array.getElem?_push_lt hi]
  have h3 : ∀ y, Region.wanted head[i] y = true := fun y => by simp [Region.wanted, hg i _ h1]
  unfold wpOp at *
  simp only [h1, h2, h3, if_true] at hh ⊢
  rcases hh with hh | ⟨_, _, _, hh⟩
  · exact .inl (wp_headPost hh)
  · exact hh.elim

theorem push_getD_lt {l : Array Bool} {i : Nat} {d : Bool} (h : i < l.size) : (l.push false).getD i d = l.getD i d := by
  simp [Array.getElem?_push_lt h, h]
theorem push_getD_false {l : Array Bool} {i : Nat} : (l.push false).getD i false = l.getD i false := by
  rcases Nat.lt_trichotomy i l.size with h | h | h
  · exact push_getD_lt h
  · subst h; simp
  · simp [Array.getElem?_eq_none (show l.size ≤ i by omega), Array.getElem?_eq_none (show (l.push false).size ≤ i by simp; omega)]
theorem push_getD_at {l : Array Bool} {d : Bool} : (l.push false).getD l.size d = false := by simp
theorem push_set {l : Array Bool} {i : Nat} (h : i < l.size) : (l.push false).setIfInBounds i true = (l.setIfInBounds i true).push false := by
  apply Array.ext_getElem?
  intro k
  simp only [Array.getElem?_setIfInBounds, Array.getElem?_push, Array.size_push, Array.size_setIfInBounds]
  by_cases hik : i = k
  · subst hik
    simp [h, show i ≠ l.size by omega, show i < l.size + 1 by omega]
  · simp [hik]

/-- what stands ready among the head's stands ready in the whole, and the other way round. -/
theorem ready_head {listed : Array Bool} (hs : listed.size = head.size) {i : Nat} (hi : i < head.size) : i ∈ Region.ready md (head.push last) (listed.push false) ↔ i ∈ Region.ready md head listed := by
  rw [mem_ready, mem_ready, push_getD_lt (by omega), Array.getElem?_push_lt hi]
  simp only [push_getD_false, Array.getElem?_eq_getElem hi]

/-- where nothing stands ready, all is done. -/
theorem all_listed {listed : Array Bool} (hs : listed.size = head.size) (hb : ∀ (i : Nat) (o : Oper), head[i]? = some o → ∀ e ∈ o.after, Region.binds md e = true → e.on < i) (hr : Region.ready md head listed = []) :
    ∀ i, i < head.size → listed.getD i false = true := by
  intro i
  induction i using Nat.strongRecOn with
  | _ i ih =>
    intro hi
    cases h : listed.getD i false with
    | true => rfl
    | false =>
      have : i ∈ Region.ready md head listed := mem_ready.2 ⟨getD_in (by omega) h, head[i], Array.getElem?_eq_getElem hi, fun e he hbd => by
        have h1 := hb i _ (Array.getElem?_eq_getElem hi) e he hbd
        exact ih e.on h1 (by omega)⟩
      rw [hr] at this
      cases this

theorem ready_last {listed : Array Bool} (hl : ∀ i : Nat, i < head.size → ∃ e ∈ last.after, Region.binds md e = true ∧ e.on = i) (h : head.size ∈ Region.ready md (head.push last) (listed.push false)) :
    ∀ i, i < head.size → listed.getD i false = true := by
  obtain ⟨_, o, ho, hall⟩ := mem_ready.1 h
  simp only [Array.getElem?_push_size, Option.some.injEq] at ho
  subst ho
  intro i hi
  obtain ⟨e, he, hb, hon⟩ := hl i hi
  have := hall e he hb
  rw [push_getD_false, hon] at this
  exact this

theorem wpAny_snoc (hg : ∀ (i : Nat) (o : Oper), head[i]? = some o → o.guard = none) (hb : ∀ (i : Nat) (o : Oper), head[i]? = some o → ∀ e ∈ o.after, Region.binds md e = true → e.on < i)
    (hl : ∀ i : Nat, i < head.size → ∃ e ∈ last.after, Region.binds md e = true ∧ e.on = i) (hn : ∀ e ∈ last.after, Region.binds md e = true → e.on < head.size)
    (hT : ∀ a w, T a w → wpOp P (head.push last) Q head.size (Q .normal) a w) :
    ∀ (fuel : Nat) (listed : Array Bool) (a : Act) (w : World), listed.size = head.size → wpAny P md head (HeadPost T) fuel listed a w → wpAny P md (head.push last) Q (fuel + 1) (listed.push false) a w := by
  have hready : ∀ (listed : Array Bool), listed.size = head.size → (∀ i, i < head.size → listed.getD i false = true) → head.size ∈ Region.ready md (head.push last) (listed.push false) := fun listed hs hall =>
    mem_ready.2 ⟨by rw [← hs]; exact push_getD_at, last, by simp, fun e he hbd => by rw [push_getD_false]; exact hall _ (hn e he hbd)⟩
  have hdone : ∀ (listed : Array Bool), listed.size = head.size → (∀ i, i < head.size → listed.getD i false = true) → Region.ready md (head.push last) ((listed.push false).setIfInBounds head.size true) = [] := fun listed hs hall => by
    refine List.eq_nil_iff_forall_not_mem.2 fun j hj => ?_
    obtain ⟨h1, o, ho, _⟩ := mem_ready.1 hj
    have hj2 : j < head.size + 1 := by have := (Array.getElem?_eq_some_iff.1 ho).1; simpa using this
    by_cases hjn : j = head.size
    · subst hjn
      simp [hs] at h1
    · rw [getD_set_ne true (Ne.symm hjn), push_getD_lt (by omega)] at h1
      have h2 := hall j (by omega)
      rw [getD_both h1] at h2
      cases h2
  have hlast : ∀ (listed : Array Bool) (a : Act) (w : World) (g : Nat), listed.size = head.size → (∀ i, i < head.size → listed.getD i false = true) → T a w →
      wpOp P (head.push last) Q head.size (wpAny P md (head.push last) Q g ((listed.push false).setIfInBounds head.size true)) a w := fun listed a w g hs hall ht =>
    wpOp_mono (fun a' w' hq => by
      have hd := hdone listed hs hall
      cases g with
      | zero => exact ⟨hd, hq⟩
      | succ g => exact ⟨fun _ => hq, fun i hi => by rw [hd] at hi; cases hi⟩) (hT a w ht)
  intro fuel
  induction fuel with
  | zero =>
    intro listed a w hs h
    have hall := all_listed hs hb h.1
    refine ⟨fun h0 => ?_, fun i hi => ?_⟩
    · have := hready listed hs hall; rw [h0] at this; cases this
    · by_cases hin : i < head.size
      · have := (ready_head hs hin).1 hi; rw [h.1] at this; cases this
      · obtain ⟨_, o, ho, _⟩ := mem_ready.1 hi
        have hi2 : i < head.size + 1 := by have := (Array.getElem?_eq_some_iff.1 ho).1; simpa using this
        have : i = head.size := by omega
        subst this
        exact hlast listed a w 0 hs hall h.2
  | succ fuel ih =>
    intro listed a w hs h
    refine ⟨fun h0 => ?_, fun i hi => ?_⟩
    · have h1 : Region.ready md head listed = [] := List.eq_nil_iff_forall_not_mem.2 fun j hj => by
        obtain ⟨_, o, ho, _⟩ := mem_ready.1 hj
        have := (ready_head (last := last) hs (Array.getElem?_eq_some_iff.1 ho).1).2 hj
        rw [h0] at this; cases this
      have := hready listed hs (all_listed hs hb h1); rw [h0] at this; cases this
    · by_cases hin : i < head.size
      · have h1 := wpOp_head (last := last) (Q := Q) hin hg (h.2 i ((ready_head hs hin).1 hi))
        rw [push_set (by omega)]
        exact wpOp_mono (fun a' w' h' => ih _ a' w' (by simpa using hs) h') h1
      · obtain ⟨_, o, ho, _⟩ := mem_ready.1 hi
        have hi2 : i < head.size + 1 := by have := (Array.getElem?_eq_some_iff.1 ho).1; simpa using this
        have : i = head.size := by omega
        subst this
        have hall := ready_last hl hi
        have h1 : Region.ready md head listed = [] := List.eq_nil_iff_forall_not_mem.2 fun j hj => by
          obtain ⟨h2, o', ho', _⟩ := mem_ready.1 hj
          have h3 := hall j (Array.getElem?_eq_some_iff.1 ho').1
          rw [getD_both h2] at h3
          cases h3
        exact hlast listed a w (fuel + 1) hs hall (h.1 h1)

/-- what is asked of such a region, to be reckoned. -/
def snocB (md : Region.Mode) (head : Array Oper) (last : Oper) : Bool :=
  (List.range head.size).all (fun i => match head[i]? with | some o => o.guard.isNone && o.after.all (fun e => !Region.binds md e || decide (e.on < i)) && last.after.any (fun e => Region.binds md e && e.on == i) | none => true) &&
  last.after.all fun e => !Region.binds md e || decide (e.on < head.size)
theorem wp_region_snoc {id : Nat} {a : Act} {w : World} (hm : P.follows .mixedOrders = true) (hB : snocB .any head last = true)
    (h : wpAny P .any head (HeadPost fun a' w' => wpOp P (head.push last) Q head.size (Q .normal) a' w') head.size (Array.replicate head.size false) a { w with drawn := w.drawn + 1 }) : (Code.region id (head.push last) true).wp P Q a w := by
  simp only [snocB, Bool.and_eq_true, List.all_eq_true, List.mem_range] at hB
  obtain ⟨h1, h2⟩ := hB
  refine wp_region_any hm ?_
  have e1 : (head.push last).size = head.size + 1 := by simp
  have e2 : Array.replicate (head.size + 1) false = (Array.replicate head.size false).push false := Array.replicate_succ
  rw [e1, e2]
  refine wpAny_snoc ?_ ?_ ?_ ?_ (fun _ _ ht => ht) _ _ _ _ (by simp) h
  · intro i o ho
    have := h1 i (Array.getElem?_eq_some_iff.1 ho).1
    simp only [ho, Bool.and_eq_true] at this
    simpa using this.1.1
  · intro i o ho e he hb
    have := h1 i (Array.getElem?_eq_some_iff.1 ho).1
    simp only [ho, Bool.and_eq_true] at this
    have := Array.all_eq_true'.1 this.1.2 e he
    simpa [hb] using this
  · intro i hi
    have := h1 i hi
    simp only [Array.getElem?_eq_getElem hi, Bool.and_eq_true] at this
    obtain ⟨e, he, hb⟩ := Array.any_eq_true'.1 this.2
    simp only [Bool.and_eq_true, beq_iff_eq] at hb
    exact ⟨e, he, hb.1, hb.2⟩
  · intro e he hb
    have := Array.all_eq_true'.1 h2 e he
    simpa [hb] using this
theorem wpOp_post {T' : Act → World → Prop} {ops : Array Oper} {i : Nat} {a : Act} {w : World} {K : Act → World → Prop} (h : wpOp P ops (HeadPost T) i K a w) : wpOp P ops (HeadPost T') i K a w := by
  unfold wpOp at *
  split
  · rename_i ho; simp only [ho] at h; exact h
  · rename_i o ho
    simp only [ho] at h
    split
    · rename_i hw
      simp only [hw, if_true] at h
      rcases h with h | ⟨_, _, _, h⟩
      · exact .inl (wp_headPost h)
      · exact h.elim
    · rename_i hw
      simp only [hw] at h
      exact h
theorem wpAnyH_post {S : World → Prop} {T' : Act → World → Prop} {ops : Array Oper} (hT : ∀ a w, T a w → T' a w) : ∀ (fuel : Nat) (listed : Array Bool) (a : Act) (w : World), wpAnyH P md ops (HeadPost T) S fuel listed a w → wpAnyH P md ops (HeadPost T') S fuel listed a w
  | 0, _, _, _, h => ⟨h.1, hT _ _ h.2⟩
  | _ + 1, _, _, _, h => ⟨fun h0 => hT _ _ (h.1 h0), fun i hi => wpOp_mono (fun _ _ h' => ⟨h'.1, wpAnyH_post hT _ _ _ _ h'.2⟩) (wpOp_post (h.2 i hi))⟩
theorem wpOp_push {a : Act} {w : World} {K : Act → World → Prop} (hg : last.guard = none) (h : last.wp P a w K Q) : wpOp P (head.push last) Q head.size K a w := by
  unfold wpOp
  have h3 : ∀ y, Region.wanted last y = true := fun y => by simp [Region.wanted, hg]
  simp only [Array.getElem?_push_size, h3, if_true]
  exact .inl h
/-- the others are held in S; then the last, as it stands. -/
theorem wp_region_snoc_held {S : World → Prop} {id : Nat} {a : Act} {w : World} (hm : P.follows .mixedOrders = true) (hB : snocB .any head last = true) (hg : last.guard = none)
    (h : wpAnyH P .any head (HeadPost fun a' w' => last.wp P a' w' (Q .normal) Q) S head.size (Array.replicate head.size false) a w.drew) : (Code.region id (head.push last) true).wp P Q a w := by
  refine wp_region_snoc hm hB (wpAny_of_held (S := S) _ _ _ _ ?_)
  exact wpAnyH_post (fun a' w' ht => wpOp_push hg ht) _ _ _ _ h
end
end Go.Proofs.Ytoaekmighinmhaa

namespace Go.Proofs.Ytoaekmighinmhaa
open Go.RowKit

section
variable {P : Program} {md : Region.Mode} {head : Array Oper} {last : Oper} {Q : Exit → Act → World → Prop} {T : Act → World → Prop}

/-- what is listed has all that it waits for listed. -/
def Clo (md : Region.Mode) (head : Array Oper) (listed : Array Bool) : Prop := ∀ (j : Nat) (o : Oper), head[j]? = some o → listed.getD j false = true → ∀ e ∈ o.after, Region.binds md e = true → listed.getD e.on false = true
theorem getD_set_self {l : Array Bool} {i : Nat} {d : Bool} (h : i < l.size) : (l.setIfInBounds i true).getD i d = true := by simp [h]
theorem getD_set_other {l : Array Bool} {i k : Nat} {d b : Bool} (h : ¬ k = i) : (l.setIfInBounds i b).getD k d = l.getD k d := by
  rw [Array.getD_eq_getD_getElem?, Array.getD_eq_getD_getElem?, Array.getElem?_setIfInBounds, if_neg (fun e => h e.symm)]
theorem clo_set {listed : Array Bool} (hc : Clo md head listed) {i : Nat} (hr : i ∈ Region.ready md head listed) : Clo md head (listed.setIfInBounds i true) := by
  obtain ⟨h1, o, ho, hall⟩ := mem_ready.1 hr
  have key : ∀ k, listed.getD k false = true → (listed.setIfInBounds i true).getD k false = true := fun k hk => by
    by_cases e : k = i
    · subst e
      rcases Nat.lt_or_ge k listed.size with h | h
      · exact getD_set_self h
      · rw [getD_both h1] at hk; cases hk
    · rw [getD_set_other e]; exact hk
  intro j oj hj hl e he hb
  by_cases hji : j = i
  · subst hji
    rw [ho] at hj
    cases hj
    exact key _ (hall e he hb)
  · rw [getD_set_other hji] at hl
    exact key _ (hc j oj hj hl e he hb)
/-- all that the last waits for, straight or by way of others. -/
def Waits (md : Region.Mode) (head : Array Oper) (last : Oper) : Prop :=
  ∀ i : Nat, i < head.size → (∃ e ∈ last.after, Region.binds md e = true ∧ e.on = i) ∨ ∃ (j : Nat) (o : Oper), i < j ∧ head[j]? = some o ∧ ∃ e ∈ o.after, Region.binds md e = true ∧ e.on = i
theorem ready_last2 {listed : Array Bool} (hc : Clo md head listed) (hl : Waits md head last) (h : head.size ∈ Region.ready md (head.push last) (listed.push false)) :
    ∀ i, i < head.size → listed.getD i false = true := by
  obtain ⟨_, o, ho, hall⟩ := mem_ready.1 h
  simp only [Array.getElem?_push_size, Option.some.injEq] at ho
  subst ho
  have key : ∀ m i, head.size - i = m → i < head.size → listed.getD i false = true := by
    intro m
    induction m using Nat.strongRecOn with
    | _ m ih =>
      intro i hm hi
      rcases hl i hi with ⟨e, he, hb, hon⟩ | ⟨j, oj, hij, hj, e, he, hb, hon⟩
      · have := hall e he hb
        rw [push_getD_false, hon] at this
        exact this
      · have hjs : j < head.size := (Array.getElem?_eq_some_iff.1 hj).1
        have := hc j oj hj (ih (head.size - j) (by omega) j rfl hjs) e he hb
        rw [hon] at this
        exact this
  exact fun i hi => key _ i rfl hi

theorem wpAny_snoc2 (hg : ∀ (i : Nat) (o : Oper), head[i]? = some o → o.guard = none) (hb : ∀ (i : Nat) (o : Oper), head[i]? = some o → ∀ e ∈ o.after, Region.binds md e = true → e.on < i)
    (hl : Waits md head last) (hn : ∀ e ∈ last.after, Region.binds md e = true → e.on < head.size)
    (hT : ∀ a w, T a w → wpOp P (head.push last) Q head.size (Q .normal) a w) :
    ∀ (fuel : Nat) (listed : Array Bool) (a : Act) (w : World), listed.size = head.size → Clo md head listed → wpAny P md head (HeadPost T) fuel listed a w → wpAny P md (head.push last) Q (fuel + 1) (listed.push false) a w := by
  have hready : ∀ (listed : Array Bool), listed.size = head.size → (∀ i, i < head.size → listed.getD i false = true) → head.size ∈ Region.ready md (head.push last) (listed.push false) := fun listed hs hall =>
    mem_ready.2 ⟨by rw [← hs]; exact push_getD_at, last, by simp, fun e he hbd => by rw [push_getD_false]; exact hall _ (hn e he hbd)⟩
  have hdone : ∀ (listed : Array Bool), listed.size = head.size → (∀ i, i < head.size → listed.getD i false = true) → Region.ready md (head.push last) ((listed.push false).setIfInBounds head.size true) = [] := fun listed hs hall => by
    refine List.eq_nil_iff_forall_not_mem.2 fun j hj => ?_
    obtain ⟨h1, o, ho, _⟩ := mem_ready.1 hj
    have hj2 : j < head.size + 1 := by have := (Array.getElem?_eq_some_iff.1 ho).1; simpa using this
    by_cases hjn : j = head.size
    · subst hjn
      simp [hs] at h1
    · rw [getD_set_ne true (Ne.symm hjn), push_getD_lt (by omega)] at h1
      have h2 := hall j (by omega)
      rw [getD_both h1] at h2
      cases h2
  have hlast : ∀ (listed : Array Bool) (a : Act) (w : World) (g : Nat), listed.size = head.size → (∀ i, i < head.size → listed.getD i false = true) → T a w →
      wpOp P (head.push last) Q head.size (wpAny P md (head.push last) Q g ((listed.push false).setIfInBounds head.size true)) a w := fun listed a w g hs hall ht =>
    wpOp_mono (fun a' w' hq => by
      have hd := hdone listed hs hall
      cases g with
      | zero => exact ⟨hd, hq⟩
      | succ g => exact ⟨fun _ => hq, fun i hi => by rw [hd] at hi; cases hi⟩) (hT a w ht)
  intro fuel
  induction fuel with
  | zero =>
    intro listed a w hs hc h
    have hall := all_listed hs hb h.1
    refine ⟨fun h0 => ?_, fun i hi => ?_⟩
    · have := hready listed hs hall; rw [h0] at this; cases this
    · by_cases hin : i < head.size
      · have := (ready_head hs hin).1 hi; rw [h.1] at this; cases this
      · obtain ⟨_, o, ho, _⟩ := mem_ready.1 hi
        have hi2 : i < head.size + 1 := by have := (Array.getElem?_eq_some_iff.1 ho).1; simpa using this
        have : i = head.size := by omega
        subst this
        exact hlast listed a w 0 hs hall h.2
  | succ fuel ih =>
    intro listed a w hs hc h
    refine ⟨fun h0 => ?_, fun i hi => ?_⟩
    · have h1 : Region.ready md head listed = [] := List.eq_nil_iff_forall_not_mem.2 fun j hj => by
        obtain ⟨_, o, ho, _⟩ := mem_ready.1 hj
        have := (ready_head (last := last) hs (Array.getElem?_eq_some_iff.1 ho).1).2 hj
        rw [h0] at this; cases this
      have := hready listed hs (all_listed hs hb h1); rw [h0] at this; cases this
    · by_cases hin : i < head.size
      · have h1 := wpOp_head (last := last) (Q := Q) hin hg (h.2 i ((ready_head hs hin).1 hi))
        rw [push_set (by omega)]
        exact wpOp_mono (fun a' w' h' => ih _ a' w' (by simpa using hs) (clo_set hc ((ready_head hs hin).1 hi)) h') h1
      · obtain ⟨_, o, ho, _⟩ := mem_ready.1 hi
        have hi2 : i < head.size + 1 := by have := (Array.getElem?_eq_some_iff.1 ho).1; simpa using this
        have : i = head.size := by omega
        subst this
        have hall := ready_last2 hc hl hi
        have h1 : Region.ready md head listed = [] := List.eq_nil_iff_forall_not_mem.2 fun j hj => by
          obtain ⟨h2, o', ho', _⟩ := mem_ready.1 hj
          have h3 := hall j (Array.getElem?_eq_some_iff.1 ho').1
          rw [getD_both h2] at h3
          cases h3
        exact hlast listed a w (fuel + 1) hs hall (h.1 h1)

/-- what is asked of such a region, to be reckoned. -/
def snocB2 (md : Region.Mode) (head : Array Oper) (last : Oper) : Bool :=
  (List.range head.size).all (fun i => match head[i]? with
    | some o => o.guard.isNone && o.after.all (fun e => !Region.binds md e || decide (e.on < i)) && (last.after.any (fun e => Region.binds md e && e.on == i) ||
        (List.range head.size).any (fun j => decide (i < j) && match head[j]? with | some oj => oj.after.any (fun e => Region.binds md e && e.on == i) | none => false))
    | none => true) &&
  last.after.all fun e => !Region.binds md e || decide (e.on < head.size)
theorem wp_region_snoc2 {id : Nat} {a : Act} {w : World} (hm : P.follows .mixedOrders = true) (hB : snocB2 .any head last = true)
    (h : wpAny P .any head (HeadPost fun a' w' => wpOp P (head.push last) Q head.size (Q .normal) a' w') head.size (Array.replicate head.size false) a { w with drawn := w.drawn + 1 }) : (Code.region id (head.push last) true).wp P Q a w := by
  simp only [snocB2, Bool.and_eq_true, List.all_eq_true, List.mem_range] at hB
  obtain ⟨h1, h2⟩ := hB
  refine wp_region_any hm ?_
  have e1 : (head.push last).size = head.size + 1 := by simp
  have e2 : Array.replicate (head.size + 1) false = (Array.replicate head.size false).push false := Array.replicate_succ
  rw [e1, e2]
  refine wpAny_snoc2 ?_ ?_ ?_ ?_ (fun _ _ ht => ht) _ _ _ _ (by simp) (fun j o _ hl => by rw [Array.getD_eq_getD_getElem?] at hl; simp [Array.getElem?_replicate] at hl; split at hl <;> simp at hl) h
  · intro i o ho
    have := h1 i (Array.getElem?_eq_some_iff.1 ho).1
    simp only [ho, Bool.and_eq_true] at this
    simpa using this.1.1
  · intro i o ho e he hb
    have := h1 i (Array.getElem?_eq_some_iff.1 ho).1
    simp only [ho, Bool.and_eq_true] at this
    have := Array.all_eq_true'.1 this.1.2 e he
    simpa [hb] using this
  · intro i hi
    have := h1 i hi
    simp only [Array.getElem?_eq_getElem hi, Bool.and_eq_true, Bool.or_eq_true, List.any_eq_true, List.mem_range] at this
    rcases this.2 with h3 | ⟨j, hj, h4, h5⟩
    · obtain ⟨e, he, hb⟩ := Array.any_eq_true'.1 h3
      simp only [Bool.and_eq_true, beq_iff_eq] at hb
      exact .inl ⟨e, he, hb.1, hb.2⟩
    · rw [Array.getElem?_eq_getElem hj] at h5
      obtain ⟨e, he, hb⟩ := Array.any_eq_true'.1 h5
      simp only [Bool.and_eq_true, beq_iff_eq] at hb
      exact .inr ⟨j, head[j], by simpa using h4, Array.getElem?_eq_getElem hj, e, he, hb.1, hb.2⟩
  · intro e he hb
    have := Array.all_eq_true'.1 h2 e he
    simpa [hb] using this
/-- the others are held in S; then the last, as it stands. -/
theorem wp_region_snoc_held2 {S : World → Prop} {id : Nat} {a : Act} {w : World} (hm : P.follows .mixedOrders = true) (hB : snocB2 .any head last = true) (hg : last.guard = none)
    (h : wpAnyH P .any head (HeadPost fun a' w' => last.wp P a' w' (Q .normal) Q) S head.size (Array.replicate head.size false) a w.drew) : (Code.region id (head.push last) true).wp P Q a w := by
  refine wp_region_snoc2 hm hB (wpAny_of_held (S := S) _ _ _ _ ?_)
  exact wpAnyH_post (fun a' w' ht => wpOp_push hg ht) _ _ _ _ h
end
end Go.Proofs.Ytoaekmighinmhaa

namespace Go.Proofs.Ytoaekmighinmhaa
open Go.RowKit

set_option maxRecDepth 100000 in
theorem Clone_anyE (A : Addr) (m c : Nat) (news : List Value) (w : World) (hm : 0 < m) (hm2 : m ≤ 1000000) (hl : news.length = m * 2) (hnews : ∀ j u, news[j]? = some u → w.cell? (A.add j) = some u) (h1 : ∀ u ∈ news, u.oneCell' = true) :
    Calls Try.prog 63 #[.slice (some A) m c] w fun e w' => ∃ g cap, e = .returned (.slice (some ⟨g, 0, none⟩) m cap) ∧ w'.ownsRow 0 34 2 (.slice (some ⟨g, 0, none⟩) m cap) m news ∧ Below w.heap.size w w' ∧ w.heap.size ≤ g ∧ g < w'.heap.size := by
  obtain ⟨i0, hi, hz0, hz1, hz2⟩ := info_parts infoE
  obtain ⟨W1, hW1⟩ : ∃ W1, w.alloc (.cells #[] 34) = W1 := ⟨_, rfl⟩
  have hb1 : Below w.heap.size w W1 := by rw [← hW1]; exact (Below.refl _ _).alloc (Nat.le_refl _) _
  have hs1 : W1.heap.size = w.heap.size + 1 := by rw [← hW1]; simp
  have hr1 : W1.ownsRow 0 34 2 (.slice (some ⟨w.heap.size, 0, none⟩) 0 0) 0 [] := ⟨by simp, .inr ⟨w.heap.size, 0, #[], rfl, Nat.zero_le _, by rw [← hW1]; exact heap_alloc_new _ _, Nat.le_refl _, by unfold maxLen; omega, by simp, by simp⟩⟩
  have H := (show Hid _ from And.intro hb1 (And.intro hs1 (And.intro hr1 (And.intro (fun j u hj => ((hb1.cell (lt_of_cell (hnews j u hj))).trans (hnews j u hj))) h1))))
  clear hb1 hs1 hr1 hnews h1
  have hq : ∀ a m c W, (binOp .eql 25 (.slice a m c) (.slice none 0 0)).run Try.prog W = .ok (.bool a.isNone) W := fun a m c W => Lib.run_eql_slice_nil W _ _ a m c 0 0 Try.underlying25
  go_enter Try.func63, Try.ntmps63
  go_wp2_with (first | (at_builtin; refine wpList_append_lies _ rfl (.tmp 5) (.tmp 6) 25 rfl 0 34 i0 _ 2 24 Try.underlying25 hi hz0 hz1 hz2 rfl (by decide) _ 0 [] rfl H.out.2.2.1 A m c news rfl (by omega) H.out.2.2.2.1 H.out.2.2.2.2 hm (by unfold maxLen; omega) (by omega) (Nat.zero_le _) _ rfl ?_; intro g cap w3 hown3 hgrow3 hlie hlt3; have Y := (show Hid _ from And.intro hown3 (And.intro hgrow3 (And.intro hlie hlt3))); clear hown3 hgrow3 hlie hlt3))
  go_ret
  obtain ⟨hown3, hgrow3, hlie, hlt3⟩ := Y.out
  rw [Nat.zero_add] at hown3
  have hg : w.heap.size ≤ g := by
    rcases hlie with e | e
    · exact Nat.le_of_eq (Option.some.inj e)
    · rw [e, H.out.2.1]; omega
  exact ⟨g, cap, by simp [go_sem], hown3, H.out.1.grown hgrow3 H.out.1.size (fun k hk => Nat.le_of_eq (Option.some.inj hk)), hg, hlt3⟩

set_option maxRecDepth 100000 in
set_option maxHeartbeats 4000000 in
theorem cut_anyE (t : Nd) (w : World) (h : Sh w t) (h1 : ∀ a, sc a t ≤ 1) (hl : t.es.length = 5) :
    Calls Try.prog 47 #[.pointer (some ⟨t.b, 0, none⟩), .int .i64 3] w
      fun e w' => ∃ s' g cap, e = .returned (.slice (some ⟨g, 0, none⟩) 2 cap) ∧ Ev1 w t w' { t with s := s', es := t.es.take 3 } ∧ s'.ownBlock = t.s.ownBlock ∧ w'.ownsRow 0 34 2 (.slice (some ⟨g, 0, none⟩) 2 cap) 2 (encEns (t.es.drop 3)) ∧ w.heap.size ≤ g ∧ g < w'.heap.size := by
  obtain ⟨B, c, e1, hc1, hc2, hcell, -⟩ := own_cells (h.es) (by omega)
  have c0 : w.cell? ⟨t.b, 0, none⟩ = some (.slice (some ⟨B, 0, none⟩) 5 c) := by rw [← hl, ← e1]; simp [World.cell?, h.node]
  have fz : ∀ j, w.frozen? ⟨t.b, j, none⟩ = false := fun j => by simp [World.frozen?, h.node]
  rw [hl] at hc1
  have hbw := lt_of_cell c0
  obtain ⟨q, rfl⟩ : ∃ q, c = q + 5 := ⟨c - 5, by omega⟩
  have hrow := h.es
  rw [e1, hl] at hrow
  have hvb : vc B t.s = 1 := vc_of (by rw [e1]; rfl)
  have hBb : t.b ≠ B := fun e => by
    have := h1 t.b
    unfold sc at this
    rw [if_pos rfl, e] at this
    omega
  have hBl := own_lt h.es (by omega : vc B t.s ≠ 0)
  have hcl := Clone_anyE ⟨B, 3 * 2, none⟩ 2 (q + 2) (encEns (t.es.drop 3)) w (by omega) (by omega) (by rw [encEns_len]; simp; omega)
    (fun j u hj => by
      rw [Addr.add_lit]
      refine hcell _ _ ?_
      rw [← encEns_drop, List.getElem?_drop] at hj
      exact hj) (encEns_one _)
  have hdel : ∀ W : World, W.ownsRow 0 34 2 (.slice (some ⟨B, 0, none⟩) 5 (q + 5)) 5 (encEns t.es) → Calls Try.prog 50 #[.slice (some ⟨B, 0, none⟩) 5 (q + 5), .int .i64 3, .int .i64 5] W
      fun e w' => ∃ s', e = .returned s' ∧ w'.ownsRow 0 34 2 s' 3 (encEns (t.es.take 3)) ∧ s'.ownBlock = some B ∧ W.grownBy w' (some B) := fun W hW => by
    have hlm : (t.es).length = 5 := by simpa using hl
    have h3 := Delete_anyE t.es (.slice (some ⟨B, 0, none⟩) 5 (q + 5)) 0 3 (2 - 1) W (by rw [hlm]; exact hW) (by omega)
    have e4 : (t.es).take 3 ++ (t.es).drop (3 + (2 - 1 + 1)) = t.es.take 3 := by
      rw [List.drop_of_length_le (by omega), List.append_nil]
    rw [e4] at h3
    have e5 : (t.es.take 3).length = 3 := by simp; omega
    rw [e5] at h3
    exact h3
  have HH := (show Hid _ from And.intro h (And.intro hrow (And.intro hBb (And.intro hBl e1))))
  clear h hrow e1 hcell
  go_enter Try.func47, Try.ntmps47
  go_wp2_with fail
  refine hcl.mono ?_
  rintro e w1 ⟨g, cap, rfl, hr1, hb1, hg1, hg2⟩
  obtain ⟨h, hrow, hBb, hBl, e1⟩ := HH.out
  have d0 := (hb1.cell (lt_of_cell c0)).trans c0
  have dz : ∀ j, w1.frozen? ⟨t.b, j, none⟩ = false := fun j => (hb1.frozen (p := ⟨t.b, j, none⟩) hbw).trans (fz j)
  have hrow1 := own_keep (W' := w1) hrow fun a ha => hb1.block a (own_lt hrow ha)
  have P0 := fun (w' : World) (h : w'.heap[t.b]? = w1.heap[t.b]?) => (World.cell?_of_block (a := ⟨t.b, 0, none⟩) h).trans d0
  have H1 := (show Hid _ from And.intro hr1 (And.intro hb1 (And.intro hg1 hg2)))
  clear h hrow e1 hr1 hb1 hg1 hg2 hcl c0
  have h0 : (fun w' : World => w'.heap[t.b]? = w1.heap[t.b]?) w1.drew := rfl
  go_wp2_with fail
  refine wp_region_snoc_held2 (S := fun w' => w'.heap[t.b]? = w1.heap[t.b]?) (head := #[_, _, _, _, _, _, _, _, _, _, _]) (last := ⟨_, _, _, _, _, _⟩) mixed (by kernel_rfl) rfl ?_
  refine wpAnyH_take (i := 0) (oi := ⟨_, _, _, _, _, _⟩) (v := ?v1) rfl (by kernel_rfl) (by kernel_rfl) (by kernel_rfl) (fun _ _ _ h => h) (Or.inl ⟨by rfl, ?hy1⟩) h0 ?rest1
  case hy1 => (intro w hSw; (try dsimp only at hSw); go_simp; try with_reducible rfl)
  simp only [Act.put, List.setIfInBounds_toArray, List.set_cons_zero, List.set_cons_succ]
  refine wpAnyH_take (i := 1) (oi := ⟨_, _, _, _, _, _⟩) (v := ?v2) rfl (by kernel_rfl) (by kernel_rfl) (by kernel_rfl) (fun _ _ _ h => h) (Or.inl ⟨by rfl, ?hy2⟩) h0 ?rest2
  case hy2 => (intro w hSw; (try dsimp only at hSw); go_simp; try with_reducible rfl)
  simp only [Act.put, List.setIfInBounds_toArray, List.set_cons_zero, List.set_cons_succ]
  refine wpAnyH_take (i := 2) (oi := ⟨_, _, _, _, _, _⟩) (v := ?v3) rfl (by kernel_rfl) (by kernel_rfl) (by kernel_rfl) (fun _ _ _ h => h) (Or.inl ⟨by rfl, ?hy3⟩) h0 ?rest3
  case hy3 => (intro w hSw; (try dsimp only at hSw); go_simp; try with_reducible rfl)
  simp only [Act.put, List.setIfInBounds_toArray, List.set_cons_zero, List.set_cons_succ]
  refine wpAnyH_take (i := 3) (oi := ⟨_, _, _, _, _, _⟩) (v := ?v4) rfl (by kernel_rfl) (by kernel_rfl) (by kernel_rfl) (fun _ _ _ h => h) (Or.inl ⟨by rfl, ?hy4⟩) h0 ?rest4
  case hy4 => (intro w hSw; (try dsimp only at hSw); go_simp; try with_reducible rfl)
  simp only [Act.put, List.setIfInBounds_toArray, List.set_cons_zero, List.set_cons_succ]
  refine wpAnyH_take (i := 4) (oi := ⟨_, _, _, _, _, _⟩) (v := ?v5) rfl (by kernel_rfl) (by kernel_rfl) (by kernel_rfl) (fun _ _ _ h => h) (Or.inl ⟨by rfl, ?hy5⟩) h0 ?rest5
  case hy5 => (intro w hSw; (try dsimp only at hSw); go_simp; try with_reducible rfl)
  simp only [Act.put, List.setIfInBounds_toArray, List.set_cons_zero, List.set_cons_succ]
  refine wpAnyH_take (i := 5) (oi := ⟨_, _, _, _, _, _⟩) (v := ?v6) rfl (by kernel_rfl) (by kernel_rfl) (by kernel_rfl) (fun _ _ _ h => h) (Or.inl ⟨by rfl, ?hy6⟩) h0 ?rest6
  case hy6 => (intro w hSw; (try dsimp only at hSw); go_simp; try with_reducible rfl)
  simp only [Act.put, List.setIfInBounds_toArray, List.set_cons_zero, List.set_cons_succ]
  refine wpAnyH_take (i := 6) (oi := ⟨_, _, _, _, _, _⟩) (v := ?v7) rfl (by kernel_rfl) (by kernel_rfl) (by kernel_rfl) (fun _ _ _ h => h) (Or.inl ⟨by rfl, ?hy7⟩) h0 ?rest7
  case hy7 => (intro w hSw; (try dsimp only at hSw); go_simp; try with_reducible rfl)
  simp only [Act.put, List.setIfInBounds_toArray, List.set_cons_zero, List.set_cons_succ]
  refine wpAnyH_take (i := 7) (oi := ⟨_, _, _, _, _, _⟩) (v := ?v8) rfl (by kernel_rfl) (by kernel_rfl) (by kernel_rfl) (fun _ _ _ h => h) (Or.inl ⟨by rfl, ?hy8⟩) h0 ?rest8
  case hy8 => (intro w hSw; (try dsimp only at hSw); go_simp; try with_reducible rfl)
  simp only [Act.put, List.setIfInBounds_toArray, List.set_cons_zero, List.set_cons_succ]
  refine wpAnyH_take (i := 8) (oi := ⟨_, _, _, _, _, _⟩) (v := ?v9) rfl (by kernel_rfl) (by kernel_rfl) (by kernel_rfl) (fun _ _ _ h => h) (Or.inl ⟨by rfl, ?hy9⟩) h0 ?rest9
  case hy9 => (intro w hSw; (try dsimp only at hSw); go_simp; try with_reducible rfl)
  simp only [Act.put, List.setIfInBounds_toArray, List.set_cons_zero, List.set_cons_succ]
  refine wpAnyH_ready (rs := [9]) (by kernel_rfl) (by simp) ?_
  refine AllReadyH.cons (o := ⟨_, _, _, _, _, _⟩) rfl (fun K hK => ?_) AllReadyH.nil
  go_simp
  refine (hdel w1.drew hrow1).mono ?_
  rintro e w2 ⟨s', rfl, hr2, ho2, hg2⟩
  obtain ⟨a2, c2, rfl⟩ := slice_of_row hr2
  have h2 : w2.heap[t.b]? = w1.heap[t.b]? := hg2.block t.b (Nat.lt_of_lt_of_le hbw H1.out.2.1.size) (fun e => hBb (Option.some.inj e))
  refine hK.out _ _ h2 (fun hHeld => ?_)
  clear hK K hHeld
  try simp only [Act.put, List.setIfInBounds_toArray, List.set_cons_zero, List.set_cons_succ]
  refine wpAnyH_ready (rs := [10]) (by kernel_rfl) (by simp) ?_
  refine AllReadyH.cons (o := ⟨_, _, _, _, _, _⟩) rfl (fun K hK => ?_) AllReadyH.nil
  go_simp
  refine hK.out _ _ h2 (fun hHeld => ?_)
  clear hK K hHeld
  try simp only [Act.put, List.setIfInBounds_toArray, List.set_cons_zero, List.set_cons_succ]
  refine wpAnyH_done (by kernel_rfl) ?_ _
  have e0 := P0 w2 h2
  have ez : ∀ j, w2.frozen? ⟨t.b, j, none⟩ = false := fun j => (World.frozen?_of_block (a := ⟨t.b, j, none⟩) h2).trans (dz j)
  have H2 := (show Hid _ from And.intro hr2 (And.intro ho2 hg2))
  clear P0 hr2 ho2 hg2 d0 dz hdel hrow1 h0 h2
  show Oper.wp _ _ _ _ _ _
  go_simp
  go_wp2
  go_ret
  obtain ⟨h, hrow, hBb, hBl, e1⟩ := HH.out
  obtain ⟨hr1, hb1, hg1, hg2⟩ := H1.out
  obtain ⟨hr2, ho2, hgr⟩ := H2.out
  have hov : t.s.ownBlock = some B := by rw [e1]; rfl
  have hlt : (t.es.take 3).length = 3 := by rw [List.length_take]; omega
  have hEv := ev1_putS  (es' := t.es.take 3) h h1 (hb1.drew) (by rw [hov]; exact hgr) (by rw [hlt]; exact hr2) (.inl (by rw [hov, ho2]))
  refine ⟨_, g, cap, rfl, hEv, by rw [ho2, hov], ?_, hg1, ?_⟩
  · refine own_keep hr1 fun a ha => ?_
    obtain rfl : g = a := by have := vc_ne ha; exact Option.some.inj this
    have hne : g ≠ t.b := by omega
    have hne2 : g ≠ B := by omega
    rw [Below.heap_setCell _ _ _ _ hne]
    exact hgr.block g hg2 (fun e => hne2 (Option.some.inj e))
  · have := hgr.size
    show g < (w2.setCell _ _).heap.size
    simp only [World.setCell, Array.size_modify]
    exact Nat.lt_of_lt_of_le hg2 this
end Go.Proofs.Ytoaekmighinmhaa
