/-
  slices.Delete at fields by its contract. No conditions beyond those stated.
-/
import Derived.Test.YtjihfbahcebljaaDoorVFind
import Derived.Deep.RegionLaw
import Derived.Lib.AppendZeros
namespace Go.Proofs.YtjihfbahcebljaaDoor
open Go.RowKit

theorem step_append_eq {P : Program} {ops : Array Oper} {o : Oper} {a : Act} {w : World} {K : Act → World → Prop} {Q : Exit → Act → World → Prop} {E : Prop}
    (hg : o.guard = none) (s x : Operand) (t tn : TypeId) (hop : o.op = Op.call { callee := Callee.builtin Builtin.append, args := #[s, x], argTypes := #[t, tn] })
    (vs vx : Value) (hs : a.eval s = vs) (hx : a.eval x = vx) (v' : Value) (w' : World) (hr : (Builtin.append_ #[t, tn] o.type #[vs, vx]).run P w = .ok v' w') (hK : K (a.put o.dst v') w') :
    if Region.wanted o (yielded ops a.tmps) = true then Oper.wp P o a w K Q else E := by
  have hw : Region.wanted o (yielded ops a.tmps) = true := by simp [Region.wanted, hg]
  rw [if_pos hw]
  unfold Oper.wp
  simp [execOp, hop, resolve, invoke, builtin, hs, hx, hr, Result.andThen]
  exact hK
theorem step_copy_eq {P : Program} {ops : Array Oper} {o : Oper} {a : Act} {w : World} {K : Act → World → Prop} {Q : Exit → Act → World → Prop} {E : Prop}
    (hg : o.guard = none) (s x : Operand) (t tn : TypeId) (hop : o.op = Op.call { callee := Callee.builtin Builtin.copy, args := #[s, x], argTypes := #[t, tn] })
    (vs vx : Value) (hs : a.eval s = vs) (hx : a.eval x = vx) (v' : Value) (w' : World) (hr : (Builtin.copy_ #[t, tn] o.type #[vs, vx]).run P w = .ok v' w') (hK : K (a.put o.dst v') w') :
    if Region.wanted o (yielded ops a.tmps) = true then Oper.wp P o a w K Q else E := by
  have hw : Region.wanted o (yielded ops a.tmps) = true := by simp [Region.wanted, hg]
  rw [if_pos hw]
  unfold Oper.wp
  simp [execOp, hop, resolve, invoke, builtin, hs, hx, hr, Result.andThen]
  exact hK

theorem encFs_one {fs : List Fl} (h : ∀ e ∈ fs, ∃ a1 n1 c1 a2 n2 c2, e.l = .slice a1 n1 c1 ∧ e.f = .slice a2 n2 c2) : ∀ u ∈ encFs fs, u.oneCell' = true := by
  intro u hu
  obtain ⟨e, he, hu⟩ := List.mem_flatMap.1 hu
  obtain ⟨a1, n1, c1, a2, n2, c2, h1, h2⟩ := h e he
  simp only [Fl.enc, h1, h2, List.mem_cons, List.not_mem_nil, or_false] at hu
  rcases hu with rfl | rfl | rfl | rfl | rfl | rfl <;> rfl
theorem encEs_one {es : List El} (h : ∀ e ∈ es, ∃ a1 n1 c1 a2 n2 c2, e.l = .slice a1 n1 c1 ∧ e.f = .slice a2 n2 c2) : ∀ u ∈ encEs es, u.oneCell' = true := by
  intro u hu
  obtain ⟨e, he, hu⟩ := List.mem_flatMap.1 hu
  obtain ⟨a1, n1, c1, a2, n2, c2, h1, h2⟩ := h e he
  simp only [El.enc, h1, h2, List.mem_cons, List.not_mem_nil, or_false] at hu
  rcases hu with rfl | rfl | rfl | rfl | rfl <;> rfl
theorem encFs_take : ∀ (fs : List Fl) (i : Nat), (encFs fs).take (i * 6) = encFs (fs.take i)
  | [], i => by simp [encFs]
  | f :: fs, 0 => by simp [encFs]
  | f :: fs, i + 1 => by
    have ih := encFs_take fs i
    unfold encFs at ih ⊢
    rw [List.take_succ_cons, List.flatMap_cons, List.flatMap_cons, show (i + 1) * 6 = f.enc.length + i * 6 by simp [Fl.enc]; omega, List.take_length_add_append, ih]
theorem encFs_drop : ∀ (fs : List Fl) (i : Nat), (encFs fs).drop (i * 6) = encFs (fs.drop i)
  | [], i => by simp [encFs]
  | f :: fs, 0 => by simp [encFs]
  | f :: fs, i + 1 => by
    have ih := encFs_drop fs i
    unfold encFs at ih ⊢
    rw [List.drop_succ_cons, List.flatMap_cons, show (i + 1) * 6 = f.enc.length + i * 6 by simp [Fl.enc]; omega, List.drop_length_add_append, ih]

theorem clear_rows {W : World} {B o n c : Nat} {cur : Array Value} (hg : W.heap[B]? = some (.cells cur 75 (0, 0))) (h : o + (n + 1) * 6 ≤ cur.size) :
    ∃ cs, cs.length = (n + 1) * 6 ∧ ∀ ty, (Builtin.clear_ #[36] ty #[.slice (some ⟨B, o, none⟩) (n + 1) c]).run Tryd.prog W = .ok (.tuple #[]) (W.setRow B (cur.toList.take o ++ cs ++ cur.toList.drop (o + (n + 1) * 6)).toArray) := by
  obtain ⟨i, hi, hz, hs, hby⟩ := info_parts infoF
  refine ⟨(Builtin.zeroCells (Value.agg #[.string ⟨#[]⟩, .int .i64 0, .int .i64 0, .string ⟨#[]⟩, .slice none 0 0, .slice none 0 0]).cells (n + 1)).toList, ?_, ?_⟩
  · have := size_zeroCells (Value.agg #[.string ⟨#[]⟩, .int .i64 0, .int .i64 0, .string ⟨#[]⟩, .slice none 0 0, .slice none 0 0]).cells (n + 1)
    rw [Array.length_toList, this]; rfl
  · have hl : (Builtin.zeroCells (Value.agg #[.string ⟨#[]⟩, .int .i64 0, .int .i64 0, .string ⟨#[]⟩, .slice none 0 0, .slice none 0 0]).cells (n + 1)).toList.length = (n + 1) * 6 := by
      have := size_zeroCells (Value.agg #[.string ⟨#[]⟩, .int .i64 0, .int .i64 0, .string ⟨#[]⟩, .slice none 0 0, .slice none 0 0]).cells (n + 1)
      rw [Array.length_toList, this]; rfl
    have h1 : ∀ v ∈ (Builtin.zeroCells (Value.agg #[.string ⟨#[]⟩, .int .i64 0, .int .i64 0, .string ⟨#[]⟩, .slice none 0 0, .slice none 0 0]).cells (n + 1)).toList, v.oneCell' = true := by
      intro v hv
      simp only [Builtin.zeroCells, Array.mem_toList_iff, Array.mem_map, Array.mem_range] at hv
      obtain ⟨r, _, rfl⟩ := hv
      have hr : r % 6 < 6 := Nat.mod_lt _ (by omega)
      have : ∀ q, q < 6 → (#[Value.string ⟨#[]⟩, .int .i64 0, .int .i64 0, .string ⟨#[]⟩, .slice none 0 0, .slice none 0 0][q]!).oneCell' = true := by
        intro q hq
        match q, hq with
        | 0, _ => rfl
        | 1, _ => rfl
        | 2, _ => rfl
        | 3, _ => rfl
        | 4, _ => rfl
        | 5, _ => rfl
      exact this _ hr
    have hst := run_storeCells_at Tryd.prog B o 75 _ 0 cur W hg (by rw [hl]; simpa using h) h1
    rw [hl] at hst
    simp only [Nat.add_zero] at hst
    intro ty
    simp [Builtin.clear_, run_underlying Tryd.underlying36, zeroValue, typeInfo, hi, hz, hst]

theorem setRow_grown {w : World} {B : Nat} (cs : Array Value) : w.grownBy (w.setRow B cs) (some B) :=
  ⟨rfl, rfl, rfl, by simp, fun k _ hk => setRow_other w B k _ (fun e => hk (by rw [e]))⟩

end Go.Proofs.YtjihfbahcebljaaDoor
