/-
  slices.Delete at records by its contract. No conditions beyond those stated.
-/
import Derived.Test.YtjihfbahcebljaaDoorHMem
import Derived.Test.YtjihfbahcebljaaDoorVDel
namespace Go.Proofs.YtjihfbahcebljaaDoor
open Go.RowKit

theorem infoD : (Tryd.prog.info? 46).map (fun i => (i.zero, i.size, i.bytes)) = some (some (.agg #[.int .i64 0, .int .i64 0, .int .i64 0, .string ⟨#[]⟩, .slice none 0 0, .slice none 0 0]), 6, 88) := by kernel_rfl

theorem clear_docs {W : World} {B o n c : Nat} {cur : Array Value} (hg : W.heap[B]? = some (.cells cur 46 (0, 0))) (h : o + (n + 1) * 6 ≤ cur.size) :
    ∃ cs, cs.length = (n + 1) * 6 ∧ ∀ ty, (Builtin.clear_ #[55] ty #[.slice (some ⟨B, o, none⟩) (n + 1) c]).run Tryd.prog W = .ok (.tuple #[]) (W.setRow B (cur.toList.take o ++ cs ++ cur.toList.drop (o + (n + 1) * 6)).toArray) := by
  obtain ⟨i, hi, hz, hs, hby⟩ := info_parts infoD
  refine ⟨(Builtin.zeroCells (Value.agg #[.int .i64 0, .int .i64 0, .int .i64 0, .string ⟨#[]⟩, .slice none 0 0, .slice none 0 0]).cells (n + 1)).toList, ?_, ?_⟩
  · have := size_zeroCells (Value.agg #[.int .i64 0, .int .i64 0, .int .i64 0, .string ⟨#[]⟩, .slice none 0 0, .slice none 0 0]).cells (n + 1)
    rw [Array.length_toList, this]; rfl
  · have hl : (Builtin.zeroCells (Value.agg #[.int .i64 0, .int .i64 0, .int .i64 0, .string ⟨#[]⟩, .slice none 0 0, .slice none 0 0]).cells (n + 1)).toList.length = (n + 1) * 6 := by
      have := size_zeroCells (Value.agg #[.int .i64 0, .int .i64 0, .int .i64 0, .string ⟨#[]⟩, .slice none 0 0, .slice none 0 0]).cells (n + 1)
      rw [Array.length_toList, this]; rfl
    have h1 : ∀ v ∈ (Builtin.zeroCells (Value.agg #[.int .i64 0, .int .i64 0, .int .i64 0, .string ⟨#[]⟩, .slice none 0 0, .slice none 0 0]).cells (n + 1)).toList, v.oneCell' = true := by
      intro v hv
      simp only [Builtin.zeroCells, Array.mem_toList_iff, Array.mem_map, Array.mem_range] at hv
      obtain ⟨r, _, rfl⟩ := hv
      have hr : r % 6 < 6 := Nat.mod_lt _ (by omega)
      have : ∀ q, q < 6 → (#[Value.int .i64 0, .int .i64 0, .int .i64 0, .string ⟨#[]⟩, .slice none 0 0, .slice none 0 0][q]!).oneCell' = true := by
        intro q hq
        match q, hq with
        | 0, _ => rfl
        | 1, _ => rfl
        | 2, _ => rfl
        | 3, _ => rfl
        | 4, _ => rfl
        | 5, _ => rfl
      exact this _ hr
    have hst := run_storeCells_at Tryd.prog B o 46 _ 0 cur W hg (by rw [hl]; simpa using h) h1
    rw [hl] at hst
    simp only [Nat.add_zero] at hst
    intro ty
    simp [Builtin.clear_, run_underlying Tryd.underlying55, zeroValue, typeInfo, hi, hz, hst]

set_option maxHeartbeats 2000000 in
theorem DeleteD_rows (B i m q : Nat) (w : World) (cur : Array Value) (hg : w.heap[B]? = some (.cells cur 46 (0, 0))) (hmq : m ≤ q) (hsz : cur.size = (i + 1 + q) * 6) (hone : ∀ u ∈ (cur.toList.take ((i + 1 + m) * 6)), u.oneCell' = true) (hn : i + 1 + q ≤ 9223372036854775807) :
    Calls Tryd.prog 23 #[.slice (some ⟨B, 0, none⟩) (i + 1 + m) (i + 1 + q), .int .i64 (i : Int), .int .i64 ((i : Int) + 1)] w
      fun e w' => e = .returned (.slice (some ⟨B, 0, none⟩) (i + m) (i + 1 + q)) ∧ (∃ cur', w'.heap[B]? = some (.cells cur' 46 (0, 0)) ∧ cur'.size = (i + 1 + q) * 6 ∧ cur'.toList.take ((i + m) * 6) = cur.toList.take (i * 6) ++ (cur.toList.take ((i + 1 + m) * 6)).drop ((i + 1) * 6)) ∧ w.grownBy w' (some B) := by
  obtain ⟨j0, hi0, hz0, hz1, hz2⟩ := info_parts infoD
  have hic : i ≤ i + 1 + m := by omega
  have hjc : i + 1 ≤ i + 1 + m := by omega
  have hmc : i + 1 + m ≤ i + 1 + q := by omega
  have zi1 : (0 : Int) ≤ (i : Int) + 1 := by omega
  have zi3 : (i : Int) ≤ (i : Int) + 1 + (m : Int) := by omega
  have zi2 : (i : Int) + 1 ≤ (i : Int) + 1 + (m : Int) := by omega
  have zi4 : (i : Int) + 1 + (m : Int) ≤ (i : Int) + 1 + (q : Int) := by omega
  have zi5 : (i : Int) ≤ (i : Int) + 1 + (q : Int) := by omega
  obtain ⟨news, hnews⟩ : ∃ news, news = (cur.toList.take ((i + 1 + m) * 6)).drop ((i + 1) * 6) := ⟨_, rfl⟩
  have hlen : news.length = m * 6 := by rw [hnews]; simp; omega
  obtain ⟨A, hA, hsrc⟩ : ∃ A : Addr, (if q = 0 then some (⟨B, 0, none⟩ : Addr) else some ⟨B, (i + 1) * 6, none⟩) = some A ∧ Hid (∀ t u, news[t]? = some u → w.drew.cell? (A.add t) = some u) := by
    by_cases h : q = 0
    · refine ⟨⟨B, 0, none⟩, by rw [if_pos h], fun t u hu => ?_⟩
      have h0 : news.length = 0 := by rw [hlen]; omega
      rw [List.length_eq_zero_iff.1 h0] at hu
      simp at hu
    · refine ⟨⟨B, (i + 1) * 6, none⟩, by rw [if_neg h], fun t u hu => ?_⟩
      rw [Addr.add_lit]
      rw [hnews, List.getElem?_drop, List.getElem?_take] at hu
      split at hu
      · show w.cell? _ = _
        simpa [World.cell?, hg] using hu
      · cases hu
  obtain ⟨row1, hrow1⟩ : ∃ row1, row1 = (cur.toList.take (i * 6) ++ news ++ cur.toList.drop (i * 6 + news.length)).toArray := ⟨_, rfl⟩
  have hs1 : row1.size = (i + 1 + q) * 6 := by rw [hrow1]; simp; omega
  obtain ⟨W1, hW1⟩ : ∃ W1, W1 = w.drew.setRow B row1 := ⟨_, rfl⟩
  have happ : Hid (∀ ty, (Builtin.append_ #[55, 55] ty #[.slice (some ⟨B, 0, none⟩) i (i + 1 + q), .slice (some A) m q]).run Tryd.prog w.drew = .ok (.slice (some ⟨B, 0, none⟩) (i + m) (i + 1 + q)) W1) := by
    intro ty
    have := run_append_room (P := Tryd.prog) w.drew 55 ty 46 j0 Tryd.underlying55 hi0 B i (i + 1 + q) cur hg A m q news (by rw [hz1]; exact hlen) hsrc.out (by intro u hu; rw [hnews] at hu; exact hone u (List.mem_of_mem_drop hu)) (by omega) (by rw [hz1, hlen, hsz]; omega)
    rw [this, hz1, hW1, hrow1]
  have hg1 : W1.heap[B]? = some (.cells row1 46 (0, 0)) := by rw [hW1]; exact setRow_heap w.drew B cur row1 _ _ hg
  obtain ⟨c2, hc2⟩ : ∃ c2, i + 1 + q - (i + m) = c2 + 1 := ⟨q - m, by omega⟩
  obtain ⟨zs, hzl, hcl⟩ := clear_docs (W := W1) (B := B) (o := (i + m) * 6) (n := 0) (c := c2 + 1) hg1 (by rw [hs1]; omega)
  simp only [Nat.zero_add, Nat.one_mul] at hcl hzl
  obtain ⟨row2, hrow2⟩ : ∃ row2, row2 = (row1.toList.take ((i + m) * 6) ++ zs ++ row1.toList.drop ((i + m) * 6 + 6)).toArray := ⟨_, rfl⟩
  rw [← hrow2] at hcl
  have e1 : i + 1 + m - (i + m) = 1 := by omega
  have e2 : ¬ i + 1 + q = i + m := by omega
  have e3 : ¬ i + 1 + q ≤ i + m := by omega
  have e4 : i + m ≤ i + 1 + m := by omega
  have e5 : (i : Int) + (m : Int) ≤ (i : Int) + 1 + (m : Int) := by omega
  have e6 : (0 : Int) ≤ (i : Int) + 1 + (m : Int) := by omega
  have e7 : (0 : Int) ≤ (i : Int) + (m : Int) := by omega
  have S := (show Hid _ from And.intro hg1 (And.intro hs1 (And.intro hrow1 (And.intro hrow2 (And.intro hW1 (And.intro hnews (And.intro hlen (And.intro hzl hsz))))))))
  clear hg1 hs1 hrow1 hrow2 hW1 hnews hlen hzl hsrc hsz hone hi0 hz0 hz1 hz2
  go_enter Tryd.func23, Tryd.ntmps23
  go_wp2_with fail
  go_region_law (refine step_append_eq rfl (.tmp 22) (.tmp 25) 55 55 rfl _ _ (by simp [Act.eval, Act.put]) (by simp [Act.eval, Act.put]) _ _ (happ.out _) ?_)
  go_wp2
  go_ret
  obtain ⟨hg1, hs1, hrow1, hrow2, hW1, hnews, hlen, hzl, hsz⟩ := S.out
  have hl1 : (row1.toList.take ((i + m) * 6)).length = (i + m) * 6 := by simp; omega
  refine ⟨rfl, ⟨row2, setRow_heap W1 B row1 row2 _ _ hg1, ?_, ?_⟩, ?_⟩
  · rw [hrow2]; simp; omega
  · rw [hrow2, List.toList_toArray, List.append_assoc, List.take_append_of_le_length (by omega), List.take_of_length_le (by omega), hrow1, List.toList_toArray]
    have hl2 : (cur.toList.take (i * 6) ++ news).length = (i + m) * 6 := by simp; omega
    rw [List.take_append_of_le_length (by omega), List.take_of_length_le (by omega), hnews]
  · rw [hW1, setRow_setRow]
    exact ⟨rfl, rfl, rfl, by simp, fun k _ hk => setRow_other w.drew B k _ (fun e => hk (by rw [e]))⟩
/-- a record is taken out of a row. -/
theorem DeleteD_any (ds : List Dl) (base B c i : Nat) (w : World) (hone : ∀ u ∈ encDs ds, u.oneCell' = true) (h : w.ownsRow base 46 6 (.slice (some ⟨B, 0, none⟩) ds.length c) ds.length (encDs ds)) (hi : i < ds.length) :
    Calls Tryd.prog 23 #[.slice (some ⟨B, 0, none⟩) ds.length c, .int .i64 (i : Int), .int .i64 ((i : Int) + 1)] w
      fun e w' => e = .returned (.slice (some ⟨B, 0, none⟩) (ds.length - 1) c) ∧ w'.ownsRow base 46 6 (.slice (some ⟨B, 0, none⟩) (ds.length - 1) c) (ds.length - 1) (encDs (ds.take i ++ ds.drop (i + 1))) ∧ w.grownBy w' (some B) := by
  obtain ⟨b, c', cur, e, hb, hg, hc1, hc2, hs, ht, _⟩ := cells_of_row h (by omega)
  simp only [Value.slice.injEq, Option.some.injEq, Addr.mk.injEq, true_and, and_true] at e
  obtain ⟨rfl, rfl⟩ := e
  obtain ⟨m, hm⟩ : ∃ m, ds.length = i + 1 + m := ⟨ds.length - (i + 1), by omega⟩
  obtain ⟨q, hq⟩ : ∃ q, c = i + 1 + q := ⟨c - (i + 1), by omega⟩
  subst hq
  have hd := DeleteD_rows B i m q w cur hg (by omega) hs (by rw [← hm, ht]; exact hone) hc2
  rw [hm, show i + 1 + m - 1 = i + m by omega]
  refine hd.mono ?_
  rintro e w' ⟨rfl, ⟨cur', h1, h2, h3⟩, h4⟩
  refine ⟨rfl, ⟨by rw [encDs_append, ← encDs_take, ← encDs_drop]; simp [encDs_length]; omega, .inr ⟨B, _, cur', rfl, hb, h1, by omega, hc2, h2, ?_⟩⟩, h4⟩
  rw [h3, encDs_append, ← encDs_take, ← encDs_drop, ← hm, ht]
  congr 1
  rw [← ht, List.take_take]
  congr 1
  omega
end Go.Proofs.YtjihfbahcebljaaDoor
