/-
  slices.Delete at fields by its contract. No conditions beyond those stated.
-/
import Derived.Test.YtgcccihnlecpnaaGreatDoorVFind
import Derived.Deep.RegionLaw
import Derived.Lib.AppendZeros
namespace Go.Proofs.YtgcccihnlecpnaaGreatDoor
open Go.RowKit

theorem step_append_eq {P : Program} {ops : Array Oper} {o : Oper} {a : Act} {w : World} {K : Act → World → Prop} {Q : Exit → Act → World → Prop} {E : Prop}
    (hg : o.guard = none) (s x : Operand) (t tn : TypeId) (hop : o.op = Op.call { callee := Callee.builtin Builtin.append, args := #[s, x], argTypes := #[t, tn] })
    (vs vx : Value) (hs : a.eval s = vs) (hx : a.eval x = vx) (v' : Value) (w' : World) (hr : (Builtin.append_ #[t, tn] o.type #[vs, vx]).run P w = .ok v' w') (hK : K (a.put o.dst v') w') :
    if Region.wanted o (yielded ops a.tmps) = true then Oper.wp P o a w K Q else E := by
  have hw : Region.wanted o (yielded ops a.tmps) = true := by simp [Region.wanted, hg]
  rw [if_pos hw]
  unfold Oper.wp
  simp [execOp, hop, resolve, invoke, builtin, hs, hx, hr, Result.andThen]
  exact hK
theorem step_copy_eq {P : Program} {ops : Array Oper} {o : Oper} {a : Act} {w : World} {K : Act → World → Prop} {Q : Exit → Act → World → Prop} {E : Prop}
    (hg : o.guard = none) (s x : Operand) (t tn : TypeId) (hop : o.op = Op.call { callee := Callee.builtin Builtin.copy, args := #[s, x], argTypes := #[t, tn] })
    (vs vx : Value) (hs : a.eval s = vs) (hx : a.eval x = vx) (v' : Value) (w' : World) (hr : (Builtin.copy_ #[t, tn] o.type #[vs, vx]).run P w = .ok v' w') (hK : K (a.put o.dst v') w') :
    if Region.wanted o (yielded ops a.tmps) = true then Oper.wp P o a w K Q else E := by
  have hw : Region.wanted o (yielded ops a.tmps) = true := by simp [Region.wanted, hg]
  rw [if_pos hw]
  unfold Oper.wp
  simp [execOp, hop, resolve, invoke, builtin, hs, hx, hr, Result.andThen]
  exact hK

theorem encFs_one {fs : List Fl} (h : ∀ e ∈ fs, ∃ a1 n1 c1 a2 n2 c2, e.l = .slice a1 n1 c1 ∧ e.f = .slice a2 n2 c2) : ∀ u ∈ encFs fs, u.oneCell' = true := by
  intro u hu
  obtain ⟨e, he, hu⟩ := List.mem_flatMap.1 hu
  obtain ⟨a1, n1, c1, a2, n2, c2, h1, h2⟩ := h e he
  simp only [Fl.enc, h1, h2, List.mem_cons, List.not_mem_nil, or_false] at hu
  rcases hu with rfl | rfl | rfl | rfl | rfl | rfl <;> rfl
theorem encEs_one {es : List El} (h : ∀ e ∈ es, ∃ a1 n1 c1 a2 n2 c2, e.l = .slice a1 n1 c1 ∧ e.f = .slice a2 n2 c2) : ∀ u ∈ encEs es, u.oneCell' = true := by
  intro u hu
  obtain ⟨e, he, hu⟩ := List.mem_flatMap.1 hu
  obtain ⟨a1, n1, c1, a2, n2, c2, h1, h2⟩ := h e he
  simp only [El.enc, h1, h2, List.mem_cons, List.not_mem_nil, or_false] at hu
  rcases hu with rfl | rfl | rfl | rfl | rfl <;> rfl
theorem encFs_take : ∀ (fs : List Fl) (i : Nat), (encFs fs).take (i * 6) = encFs (fs.take i)
  | [], i => by simp [encFs]
  | f :: fs, 0 => by simp [encFs]
  | f :: fs, i + 1 => by
    have ih := encFs_take fs i
    unfold encFs at ih ⊢
    rw [List.take_succ_cons, List.flatMap_cons, List.flatMap_cons, show (i + 1) * 6 = f.enc.length + i * 6 by simp [Fl.enc]; omega, List.take_length_add_append, ih]
theorem encFs_drop : ∀ (fs : List Fl) (i : Nat), (encFs fs).drop (i * 6) = encFs (fs.drop i)
  | [], i => by simp [encFs]
  | f :: fs, 0 => by simp [encFs]
  | f :: fs, i + 1 => by
    have ih := encFs_drop fs i
    unfold encFs at ih ⊢
    rw [List.drop_succ_cons, List.flatMap_cons, show (i + 1) * 6 = f.enc.length + i * 6 by simp [Fl.enc]; omega, List.drop_length_add_append, ih]

theorem clear_rows {W : World} {B o n c : Nat} {cur : Array Value} (hg : W.heap[B]? = some (.cells cur 44 (0, 0))) (h : o + (n + 1) * 6 ≤ cur.size) :
    ∃ cs, cs.length = (n + 1) * 6 ∧ ∀ ty, (Builtin.clear_ #[26] ty #[.slice (some ⟨B, o, none⟩) (n + 1) c]).run Tryz.prog W = .ok (.tuple #[]) (W.setRow B (cur.toList.take o ++ cs ++ cur.toList.drop (o + (n + 1) * 6)).toArray) := by
  obtain ⟨i, hi, hz, hs, hby⟩ := info_parts infoF
  refine ⟨(Builtin.zeroCells (Value.agg #[.string ⟨#[]⟩, .int .i64 0, .int .i64 0, .string ⟨#[]⟩, .slice none 0 0, .slice none 0 0]).cells (n + 1)).toList, ?_, ?_⟩
  · have := size_zeroCells (Value.agg #[.string ⟨#[]⟩, .int .i64 0, .int .i64 0, .string ⟨#[]⟩, .slice none 0 0, .slice none 0 0]).cells (n + 1)
    rw [Array.length_toList, this]; rfl
  · have hl : (Builtin.zeroCells (Value.agg #[.string ⟨#[]⟩, .int .i64 0, .int .i64 0, .string ⟨#[]⟩, .slice none 0 0, .slice none 0 0]).cells (n + 1)).toList.length = (n + 1) * 6 := by
      have := size_zeroCells (Value.agg #[.string ⟨#[]⟩, .int .i64 0, .int .i64 0, .string ⟨#[]⟩, .slice none 0 0, .slice none 0 0]).cells (n + 1)
      rw [Array.length_toList, this]; rfl
    have h1 : ∀ v ∈ (Builtin.zeroCells (Value.agg #[.string ⟨#[]⟩, .int .i64 0, .int .i64 0, .string ⟨#[]⟩, .slice none 0 0, .slice none 0 0]).cells (n + 1)).toList, v.oneCell' = true := by
      intro v hv
      simp only [Builtin.zeroCells, Array.mem_toList_iff, Array.mem_map, Array.mem_range] at hv
      obtain ⟨r, _, rfl⟩ := hv
      have hr : r % 6 < 6 := Nat.mod_lt _ (by omega)
      have : ∀ q, q < 6 → (#[Value.string ⟨#[]⟩, .int .i64 0, .int .i64 0, .string ⟨#[]⟩, .slice none 0 0, .slice none 0 0][q]!).oneCell' = true := by
        intro q hq
        match q, hq with
        | 0, _ => rfl
        | 1, _ => rfl
        | 2, _ => rfl
        | 3, _ => rfl
        | 4, _ => rfl
        | 5, _ => rfl
      exact this _ hr
    have hst := run_storeCells_at Tryz.prog B o 44 _ 0 cur W hg (by rw [hl]; simpa using h) h1
    rw [hl] at hst
    simp only [Nat.add_zero] at hst
    intro ty
    simp [Builtin.clear_, run_underlying Tryz.underlying26, zeroValue, typeInfo, hi, hz, hst]

theorem setRow_grown {w : World} {B : Nat} (cs : Array Value) : w.grownBy (w.setRow B cs) (some B) :=
  ⟨rfl, rfl, rfl, by simp, fun k _ hk => setRow_other w B k _ (fun e => hk (by rw [e]))⟩

set_option maxHeartbeats 2000000 in
theorem Delete_rows (B i m : Nat) (w : World) (cur : Array Value) (hg : w.heap[B]? = some (.cells cur 44 (0, 0))) (hsz : cur.size = (i + 1 + m) * 6) (hone : ∀ u ∈ cur.toList, u.oneCell' = true) (hn : i + 1 + m ≤ 1000000) :
    Calls Tryz.prog 46 #[.slice (some ⟨B, 0, none⟩) (i + 1 + m) (i + 1 + m), .int .i64 (i : Int), .int .i64 ((i : Int) + 1)] w
      fun e w' => e = .returned (.slice (some ⟨B, 0, none⟩) (i + m) (i + 1 + m)) ∧ (∃ cur', w'.heap[B]? = some (.cells cur' 44 (0, 0)) ∧ cur'.size = (i + 1 + m) * 6 ∧ cur'.toList.take ((i + m) * 6) = cur.toList.take (i * 6) ++ cur.toList.drop ((i + 1) * 6)) ∧ w.grownBy w' (some B) := by
  obtain ⟨j0, hi0, hz0, hz1, hz2⟩ := info_parts infoF
  have hic : i ≤ i + 1 + m := by omega
  have hjc : i + 1 ≤ i + 1 + m := by omega
  have zi1 : (0 : Int) ≤ (i : Int) + 1 := by omega
  have zi3 : (i : Int) ≤ (i : Int) + 1 + (m : Int) := by omega
  have zi2 : (i : Int) + 1 ≤ (i : Int) + 1 + (m : Int) := by omega
  obtain ⟨news, hnews⟩ : ∃ news, news = cur.toList.drop ((i + 1) * 6) := ⟨_, rfl⟩
  have hlen : news.length = m * 6 := by rw [hnews]; simp; omega
  obtain ⟨A, hA, hsrc⟩ : ∃ A : Addr, (if m = 0 then some (⟨B, 0, none⟩ : Addr) else some ⟨B, (i + 1) * 6, none⟩) = some A ∧ Hid (∀ t u, news[t]? = some u → w.drew.cell? (A.add t) = some u) := by
    by_cases h : m = 0
    · refine ⟨⟨B, 0, none⟩, by rw [if_pos h], fun t u hu => ?_⟩
      have h0 : news.length = 0 := by rw [hlen]; omega
      rw [List.length_eq_zero_iff.1 h0] at hu
      simp at hu
    · refine ⟨⟨B, (i + 1) * 6, none⟩, by rw [if_neg h], fun t u hu => ?_⟩
      rw [Addr.add_lit]
      rw [hnews, List.getElem?_drop] at hu
      show w.cell? _ = _
      simpa [World.cell?, hg] using hu
  obtain ⟨row1, hrow1⟩ : ∃ row1, row1 = (cur.toList.take (i * 6) ++ news ++ cur.toList.drop (i * 6 + news.length)).toArray := ⟨_, rfl⟩
  have hs1 : row1.size = (i + 1 + m) * 6 := by rw [hrow1]; simp; omega
  obtain ⟨W1, hW1⟩ : ∃ W1, W1 = w.drew.setRow B row1 := ⟨_, rfl⟩
  have happ : Hid (∀ ty, (Builtin.append_ #[26, 26] ty #[.slice (some ⟨B, 0, none⟩) i (i + 1 + m), .slice (some A) m m]).run Tryz.prog w.drew = .ok (.slice (some ⟨B, 0, none⟩) (i + m) (i + 1 + m)) W1) := by
    intro ty
    have := run_append_room (P := Tryz.prog) w.drew 26 ty 44 j0 Tryz.underlying26 hi0 B i (i + 1 + m) cur hg A m m news (by rw [hz1]; exact hlen) hsrc.out (by intro u hu; rw [hnews] at hu; exact hone u (List.mem_of_mem_drop hu)) (by omega) (by rw [hz1, hlen, hsz]; omega)
    rw [this, hz1, hW1, hrow1]
  have hg1 : W1.heap[B]? = some (.cells row1 44 (0, 0)) := by rw [hW1]; exact setRow_heap w.drew B cur row1 _ _ hg
  obtain ⟨zs, hzl, hcl⟩ := clear_rows (W := W1) (B := B) (o := (i + m) * 6) (n := 0) (c := 1) hg1 (by rw [hs1]; omega)
  simp only [Nat.zero_add, Nat.one_mul] at hcl hzl
  obtain ⟨row2, hrow2⟩ : ∃ row2, row2 = (row1.toList.take ((i + m) * 6) ++ zs ++ row1.toList.drop ((i + m) * 6 + 6)).toArray := ⟨_, rfl⟩
  rw [← hrow2] at hcl
  have e1 : i + 1 + m - (i + m) = 1 := by omega
  have e2 : ¬ i + 1 + m = i + m := by omega
  have S := (show Hid _ from And.intro hg1 (And.intro hs1 (And.intro hrow1 (And.intro hrow2 (And.intro hW1 (And.intro hnews (And.intro hlen (And.intro hzl hsz))))))))
  clear hg1 hs1 hrow1 hrow2 hW1 hnews hlen hzl hsrc hsz hone hi0 hz0 hz1 hz2
  go_enter Tryz.func46, Tryz.ntmps46
  go_wp2_with fail
  go_region_law (refine step_append_eq rfl (.tmp 22) (.tmp 25) 26 26 rfl _ _ (by simp [Act.eval, Act.put]) (by simp [Act.eval, Act.put]) _ _ (happ.out _) ?_)
  go_wp2
  go_ret
  obtain ⟨hg1, hs1, hrow1, hrow2, hW1, hnews, hlen, hzl, hsz⟩ := S.out
  have hl1 : (row1.toList.take ((i + m) * 6)).length = (i + m) * 6 := by simp; omega
  refine ⟨rfl, ⟨row2, setRow_heap W1 B row1 row2 _ _ hg1, ?_, ?_⟩, ?_⟩
  · rw [hrow2]; simp; omega
  · rw [hrow2, List.toList_toArray, List.append_assoc, List.take_append_of_le_length (by omega), List.take_of_length_le (by omega), hrow1, List.toList_toArray]
    have hl2 : (cur.toList.take (i * 6) ++ news).length = (i + m) * 6 := by simp; omega
    rw [List.take_append_of_le_length (by omega), List.take_of_length_le (by omega), hnews]
  · rw [hW1, setRow_setRow]
    exact ⟨rfl, rfl, rfl, by simp, fun k _ hk => setRow_other w.drew B k _ (fun e => hk (by rw [e]))⟩
theorem Delete_any (fs : List Fl) (B i : Nat) (w : World) (hone : ∀ u ∈ encFs fs, u.oneCell' = true) (cur : Array Value) (hg : w.heap[B]? = some (.cells cur 44 (0, 0))) (hcur : cur.toList = encFs fs) (hn : fs.length ≤ 1000000) (hi : i < fs.length) :
    Calls Tryz.prog 46 #[.slice (some ⟨B, 0, none⟩) fs.length fs.length, .int .i64 (i : Int), .int .i64 ((i : Int) + 1)] w
      fun e w' => e = .returned (.slice (some ⟨B, 0, none⟩) (fs.length - 1) fs.length) ∧ (∃ cur', w'.heap[B]? = some (.cells cur' 44 (0, 0)) ∧ cur'.size = fs.length * 6 ∧ cur'.toList.take ((fs.length - 1) * 6) = encFs (fs.take i ++ fs.drop (i + 1))) ∧ w.grownBy w' (some B) := by
  have hsz : cur.size = fs.length * 6 := by rw [← Array.length_toList, hcur, encFs_length]
  obtain ⟨m, hm⟩ : ∃ m, fs.length = i + 1 + m := ⟨fs.length - (i + 1), by omega⟩
  have h := Delete_rows B i m w cur hg (by rw [hsz, hm]) (by rw [hcur]; exact hone) (by omega)
  rw [hm, show i + 1 + m - 1 = i + m by omega, encFs_append, ← encFs_take, ← encFs_drop, ← hcur]
  exact h
end Go.Proofs.YtgcccihnlecpnaaGreatDoor
