/-
  Slices of texts that grow. No conditions beyond those stated.
-/
import Derived.Test.YtgcccihnlecpnaaGreatDoorPFind
import Derived.Deep.AppendLies
namespace Go.Proofs.YtgcccihnlecpnaaGreatDoor
open Go.RowKit

theorem infoStr : (Tryz.prog.info? 9).map (fun i => (i.zero, i.size, i.bytes)) = some (some (.string ⟨#[]⟩), 1, 16) := by kernel_rfl
theorem info_parts1 {t : TypeId} {z : Value} {s b : Nat} (h : (Tryz.prog.info? t).map (fun i => (i.zero, i.size, i.bytes)) = some (some z, s, b)) : ∃ i, Tryz.prog.info? t = some i ∧ i.zero = some z ∧ i.size = s ∧ i.bytes = b := by
  obtain ⟨i, hi, hzz⟩ := Option.map_eq_some_iff.1 h
  simp only [Prod.mk.injEq] at hzz
  exact ⟨i, hi, hzz.1, hzz.2.1, hzz.2.2⟩
/-- a slice of texts that was made since. -/
structure OwS (w0 : World) (s : Value) (l : List ByteArray) (w : World) : Prop where
  below : Below w0.heap.size w0 w
  own : w.ownsRow w0.heap.size 9 1 s l.length (l.map Value.string)
theorem OwS.same {w0 w w' : World} {s : Value} {l : List ByteArray} (h : OwS w0 s l w) (hb : Below w.heap.size w w') : OwS w0 s l w' :=
  ⟨h.below.trans (hb.mono h.below.size), ownsRow_move (fun b hb' hl => ⟨(h.own.lt b hb').1, hb.block b hl⟩) h.own⟩
theorem OwS.nil {w0 w : World} (h : Below w0.heap.size w0 w) : OwS w0 (.slice none 0 0) [] w := ⟨h, World.ownsRow_nil _ _ _ _⟩
theorem OwS.strs {w0 w : World} {s : Value} {l : List ByteArray} (h : OwS w0 s l w) : StrsAt w s l := by
  rcases h.own.2 with ⟨rfl, h0⟩ | ⟨g, cap, cur, rfl, hb, hg, h1, h2, h3, h4⟩
  · obtain rfl := List.length_eq_zero_iff.1 h0
    exact ⟨none, 0, rfl, Nat.le_refl _, by omega, fun h => absurd rfl h⟩
  · refine ⟨_, cap, rfl, h1, by unfold maxLen at h2; omega, fun _ => ⟨g, 0, rfl, fun j u hj => ?_⟩⟩
    have hc := h.own.cells (g := g) rfl j (.string u) (by rw [List.getElem?_map, hj]; rfl)
    rwa [Addr.add_lit] at hc

/-- a text is appended. -/
theorem append_str {ops : Array Oper} {rest : List Oper} {o : Oper} {a : Act} {Q : Exit → Act → World → Prop} (hgd : o.guard = none) (s x : Operand)
    (ho : o.op = .call { callee := .builtin .append, args := #[s, x], argTypes := #[30, 30] })
    {w0 w : World} {sv : Value} {l : List ByteArray} (h : OwS w0 sv l w) (p : ByteArray) (hs : a.eval s = sv) (H : Nat) (hx : a.eval x = .slice (some ⟨H, 0, none⟩) 1 1) (hH : w.heap.size = H) (hl : l.length ≤ 1000000000)
    (k : ∀ sv' w', OwS w0 sv' (l ++ [p]) w' → wpList Tryz.prog ops Q rest (a.put o.dst sv') w') : wpList Tryz.prog ops Q (o :: rest) a (w.alloc (.cells #[.string p] 9)) := by
  subst hH
  obtain ⟨i0, hi, hz0, hz1, hz2⟩ := info_parts1 infoStr
  have hB : Below w.heap.size w (w.alloc (.cells #[.string p] 9)) := (Below.refl _ _).alloc (Nat.le_refl _) _
  have h1 := h.same hB
  have hnews : ∀ j u, ([Value.string p])[j]? = some u → (w.alloc (.cells #[.string p] 9)).cell? ((⟨w.heap.size, 0, none⟩ : Addr).add j) = some u := by
    have hh : (w.alloc (.cells #[.string p] 9)).heap[w.heap.size]? = some (.cells #[.string p] 9) := heap_alloc_new w _
    exact World.news_of_block hh
  have hone : ∀ v ∈ [Value.string p], v.oneCell' = true := by
    intro v hv
    rw [List.mem_singleton.1 hv]; rfl
  refine wpList_append_lies _ hgd s x 30 ho w0.heap.size 9 i0 _ 1 16 Tryz.underlying30 hi hz0 hz1 hz2 rfl (by decide) sv l.length (l.map Value.string) hs h1.own ⟨w.heap.size, 0, none⟩ 1 1 [Value.string p] hx (by simp) hnews hone (by omega) (by unfold maxLen; omega) (by omega) h1.below.size _ rfl ?_
  intro g cap w3 hown3 hgrow3 hlie hlt3
  refine k _ w3 ⟨h1.below.grown hgrow3 h1.below.size (fun k e => (h.own.lt k e).1), ?_⟩
  rw [List.length_append, List.map_append]; exact hown3
end Go.Proofs.YtgcccihnlecpnaaGreatDoor
