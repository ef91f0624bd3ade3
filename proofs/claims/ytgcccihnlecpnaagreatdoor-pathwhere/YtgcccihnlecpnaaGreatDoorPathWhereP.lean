/-
  PathWhere's walk, what it goes by. No conditions beyond those stated.
-/
import Derived.Test.YtgcccihnlecpnaaGreatDoorPFit2
import Derived.Test.YtgcccihnlecpnaaGreatDoorPLFind2
namespace Go.Proofs.YtgcccihnlecpnaaGreatDoor
open Go.RowKit

theorem StrsAt.take {w : World} {a : Option Addr} {cap : Nat} {ps : List ByteArray} (h : StrsAt w (.slice a ps.length cap) ps) (i : Nat) (hi : i ≤ ps.length) : StrsAt w (.slice a i cap) (ps.take i) := by
  obtain ⟨a', cap', e, h2, h3, h4⟩ := h
  simp only [Value.slice.injEq, true_and] at e
  obtain ⟨rfl, rfl⟩ := e
  have hl : (ps.take i).length = i := by rw [List.length_take]; omega
  refine ⟨a, cap, by rw [hl], by omega, h3, fun hne => ?_⟩
  obtain ⟨b, o, h5, h6⟩ := h4 fun e => hne (by rw [e]; simp)
  refine ⟨b, o, h5, fun j u hj => h6 j u ?_⟩
  rw [List.getElem?_take] at hj
  split at hj
  · exact hj
  · cases hj

theorem may_at : ∀ (qs : List ByteArray) (v a : V) (rest : List ByteArray), findP v qs = some a → mayP v (qs ++ rest) = mayP a rest
  | [], _, _, _, h => by cases h; rfl
  | q :: qs, v, a, rest, h => by
    obtain ⟨x, hx, h2⟩ := Option.bind_eq_some_iff.1 (show (atP v q).bind _ = some a from h)
    show (match atP v q with | none => decide (v.kind = 5) | some x => mayP x (qs ++ rest)) = _
    rw [hx]
    exact may_at qs x a rest h2
theorem may_none {a : V} {p : ByteArray} {ps : List ByteArray} (h : atP a p = none) : mayP a (p :: ps) = decide (a.kind = 5) := by
  show (match atP a p with | none => decide (a.kind = 5) | some x => mayP x ps) = _
  rw [h]
/-- what the law finds behind one more part. -/
theorem find_take {v a : V} {ps : List ByteArray} {k : Nat} {p : ByteArray} (h : findP v (ps.take k) = some a) (hp : ps[k]? = some p) : findP v (ps.take (k + 1)) = atP a p := by
  rw [List.take_add_one, hp, Option.toList_some, find_snoc, h]; rfl
theorem may_stop {v a : V} {ps : List ByteArray} {k : Nat} {p : ByteArray} (h : findP v (ps.take k) = some a) (hp : ps[k]? = some p) (hn : atP a p = none) : mayP v ps = decide (a.kind = 5) := by
  have hk : k < ps.length := (List.getElem?_eq_some_iff.1 hp).1
  have hd : ps.drop k = p :: ps.drop (k + 1) := by
    rw [List.drop_eq_getElem_cons hk, ← (List.getElem?_eq_some_iff.1 hp).2]
  have := may_at (ps.take k) v a (ps.drop k) h
  rw [List.take_append_drop, hd, may_none hn] at this
  exact this
theorem may_end {v a : V} {ps : List ByteArray} {k : Nat} (hk : ps.length ≤ k) (h : findP v (ps.take k) = some a) : mayP v ps = true := by
  rw [List.take_of_length_le hk] at h
  have := may_at ps v a [] h
  rw [List.append_nil] at this
  rw [this]; rfl
theorem may_find {v x : V} {ps : List ByteArray} (h : findP v ps = some x) : mayP v ps = true := by
  have := may_at ps v x [] h
  rw [List.append_nil] at this
  rw [this]; rfl
end Go.Proofs.YtgcccihnlecpnaaGreatDoor
