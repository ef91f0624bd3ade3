/-
  An entry behind, or ahead of, a row of entries, told with where the row lies then. Conditions: as stated.
-/
import Derived.Test.YtoaekmighinmhaaU7
import Derived.Laws.AppendOwnNone
namespace Go.Proofs.Ytoaekmighinmhaa
open Go.RowKit

theorem append_en2 {ops : Array Oper} {rest : List Oper} {o : Oper} {a : Act} {Q : Exit → Act → World → Prop} (hgd : o.guard = none) (s x : Operand)
    (ho : o.op = .call { callee := .builtin .append, args := #[s, x], argTypes := #[25, 25] })
    {w0 w : World} {B : Nat} {sv : Value} {l : List En} (h : OwE w0 B sv l w) (hBw : B ≤ w.heap.size) (p : En) (hs : a.eval s = sv) (H : Nat) (hx : a.eval x = .slice (some ⟨H, 0, none⟩) 1 1) (hH : w.heap.size = H) (hl : l.length ≤ 1000000)
    (k : ∀ sv' w', OwE w0 B sv' (l ++ [p]) w' → w.heap.size ≤ w'.heap.size → (∀ b, b < w.heap.size → sv.ownBlock ≠ some b → w'.heap[b]? = w.heap[b]?) → (∀ g, sv'.ownBlock = some g → sv.ownBlock = some g ∨ w.heap.size ≤ g) → wpList Try.prog ops Q rest (a.put o.dst sv') w') : wpList Try.prog ops Q (o :: rest) a (w.alloc (.cells #[.string p.1, .int .i64 p.2] 34)) := by
  subst hH
  obtain ⟨i0, hi, hz0, hz1, hz2⟩ := info_parts infoE
  have hB : Below w.heap.size w (w.alloc (.cells #[.string p.1, .int .i64 p.2] 34)) := (Below.refl _ _).alloc (Nat.le_refl _) _
  have h1 := h.same hB
  have hsz : (w.alloc (.cells #[.string p.1, .int .i64 p.2] 34)).heap.size = w.heap.size + 1 := by simp
  have hnews : ∀ j u, ([Value.string p.1, .int .i64 p.2])[j]? = some u → (w.alloc (.cells #[.string p.1, .int .i64 p.2] 34)).cell? ((⟨w.heap.size, 0, none⟩ : Addr).add j) = some u := by
    have hh : (w.alloc (.cells #[.string p.1, .int .i64 p.2] 34)).heap[w.heap.size]? = some (.cells #[.string p.1, .int .i64 p.2] 34) := heap_alloc_new w _
    exact World.news_of_block hh
  refine wpList_append_lies _ hgd s x 25 ho B 34 i0 _ 2 24 Try.underlying25 hi hz0 hz1 hz2 rfl (by decide) sv l.length (encEns l) hs h1.own ⟨w.heap.size, 0, none⟩ 1 1 [Value.string p.1, .int .i64 p.2] hx (by simp) hnews (encEn_one p) (by omega) (by unfold maxLen; omega) (by omega) (by omega) _ rfl ?_
  intro g cap w3 hown3 hgrow3 hlie hlt3
  refine k _ w3 ⟨h1.below.grown hgrow3 h1.below.size (fun k e => ?_), ?_, h.le⟩ ?_ (fun b hb hne => ?_) fun g' hg' => ?_
  · have := (h.own.lt k e).1
    have := h.le
    omega
  · rw [List.length_append, encEns_append]; exact hown3
  · have := hgrow3.size; omega
  · rw [hgrow3.block b (by omega) (fun e => hne e.symm)]
    exact hB.block b hb
  · have e : g = g' := by simpa [Value.ownBlock] using hg'
    subst e
    rcases hlie with h5 | h5
    · exact .inl h5
    · exact .inr (by omega)
theorem own_base {w : World} {base base' : Nat} {e : TypeId} {size : Nat} {v : Value} {n : Nat} {xs : List Value} (h : w.ownsRow base e size v n xs) (hb : base' ≤ base) : w.ownsRow base' e size v n xs :=
  ⟨h.1, h.2.imp id fun ⟨g, cap, cur, hv, h1, r⟩ => ⟨g, cap, cur, hv, Nat.le_trans hb h1, r⟩⟩
theorem one_row (w : World) (p : En) : (w.alloc (.cells #[.string p.1, .int .i64 p.2] 34)).ownsRow w.heap.size 34 2 (.slice (some ⟨w.heap.size, 0, none⟩) 1 1) 1 (encEns [p]) :=
  ⟨rfl, .inr ⟨w.heap.size, 1, #[.string p.1, .int .i64 p.2], rfl, Nat.le_refl _, heap_alloc_new _ _, Nat.le_refl _, by decide, rfl, rfl⟩⟩
/-- an entry ahead of a row. -/
theorem prepend_en {ops : Array Oper} {rest : List Oper} {o : Oper} {a : Act} {Q : Exit → Act → World → Prop} (hgd : o.guard = none) (s x : Operand)
    (ho : o.op = .call { callee := .builtin .append, args := #[s, x], argTypes := #[25, 25] })
    {w0 w : World} {B : Nat} {dv : Value} {l : List En} (h : OwE w0 B dv l w) (hBw : B ≤ w.heap.size) (p : En) (hx : a.eval x = dv) (H : Nat) (hs : a.eval s = .slice (some ⟨H, 0, none⟩) 1 1) (hH : w.heap.size = H) (hl : l.length ≤ 1000000)
    (k : ∀ sv' w', OwE w0 B sv' (p :: l) w' → w.heap.size ≤ w'.heap.size → (∀ b, b < w.heap.size → w'.heap[b]? = w.heap[b]?) → (∀ g, sv'.ownBlock = some g → w.heap.size ≤ g) → wpList Try.prog ops Q rest (a.put o.dst sv') w') : wpList Try.prog ops Q (o :: rest) a (w.alloc (.cells #[.string p.1, .int .i64 p.2] 34)) := by
  subst hH
  obtain ⟨i0, hi, hz0, hz1, hz2⟩ := info_parts infoE
  have hB : Below w.heap.size w (w.alloc (.cells #[.string p.1, .int .i64 p.2] 34)) := (Below.refl _ _).alloc (Nat.le_refl _) _
  have h1 := h.same hB
  have hsz : (w.alloc (.cells #[.string p.1, .int .i64 p.2] 34)).heap.size = w.heap.size + 1 := by simp
  rcases h1.own.2 with ⟨hv, hn⟩ | ⟨g, cap, cur, hv, hb, hg, hc1, hc2, hc3, hc4⟩
  · have hl0 : l = [] := List.length_eq_zero_iff.1 hn
    subst hl0
    refine wpList_append_own_none hgd s x 25 ho w.heap.size 34 i0 2 Try.underlying25 hi _ 1 (encEns [p]) hs (one_row w p) (hx.trans hv) ?_
    exact k _ _ ⟨h1.below, own_base (one_row w p) hBw, h.le⟩ (by omega) (fun b hb => hB.block b hb) fun g hg => by
      have e : w.heap.size = g := by simpa [Value.ownBlock] using hg
      omega
  · have hnews : ∀ j u, (encEns l)[j]? = some u → (w.alloc (.cells #[.string p.1, .int .i64 p.2] 34)).cell? ((⟨g, 0, none⟩ : Addr).add j) = some u := fun j u hu => by
      rw [← hc4, List.getElem?_take] at hu
      split at hu
      · exact World.news_of_block hg j u hu
      · cases hu
    refine wpList_append_own _ hgd s x 25 ho w.heap.size 34 i0 _ 2 24 Try.underlying25 hi hz0 hz1 hz2 rfl (by decide) _ 1 (encEns [p]) hs (one_row w p) ⟨g, 0, none⟩ l.length cap (encEns l) (hx.trans hv) (encEns_len l) hnews (encEns_one l) (by unfold maxLen; omega) (by omega) (by omega) ?_
    intro v' w' hown hgrow _
    refine k v' w' ⟨h1.below.grown hgrow h1.below.size (fun b e => ?_), ?_, h.le⟩ ?_ (fun b hb => ?_) fun g' hg' => (hown.lt g' hg').1
    · have e2 : w.heap.size = b := by simpa [Value.ownBlock] using e
      have := h.below.size
      omega
    · have h5 := own_base hown hBw
      rw [← encEns_append, Nat.add_comm] at h5
      exact h5
    · have := hgrow.size; omega
    · rw [hgrow.block b (by omega) (fun e => by
        have e2 : b = w.heap.size := by simpa [Value.ownBlock] using e
        omega)]
      exact hB.block b hb
end Go.Proofs.Ytoaekmighinmhaa
