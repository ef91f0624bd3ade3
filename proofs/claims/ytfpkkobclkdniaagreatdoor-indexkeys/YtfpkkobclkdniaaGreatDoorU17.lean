/-
  What a node's own entries tell of all that is below it: on which side of a kid the others stand. No conditions beyond those stated.
  Has a tree an entry: by its contract. Conditions: as stated.
  The first and the last entry of a tree by their contracts. Conditions: as stated.
  The entry behind any one, and the one ahead, by their contracts. Conditions: as stated.
  The law's With by its contract: entries with one more, or without one. Conditions: as stated.
-/
import Derived.Test.YtfpkkobclkdniaaGreatDoorU16
namespace Go.Proofs.YtfpkkobclkdniaaGreatDoor

theorem head_app {α : Type} {a : List α} (b : List α) (h : a ≠ []) : (a ++ b).head? = a.head? := by
  cases a with
  | nil => exact absurd rfl h
  | cons x a => rfl
theorem last_app {α : Type} (a : List α) {b : List α} (h : b ≠ []) : (a ++ b).getLast? = b.getLast? := by
  rw [List.getLast?_append, List.getLast?_eq_some_getLast h]
  rfl
theorem es_sub : ∀ (es : List En) (ks : List (List En)), es.Sublist (inter es ks)
  | [], ks => by simp
  | e :: es, [] => by unfold inter; exact List.Sublist.refl _
  | e :: es, k :: ks => by
    unfold inter
    exact ((es_sub es ks).cons_cons e).trans (List.sublist_append_right _ _)
theorem sort_sub {a b : List En} (h : SortE b) (hs : a.Sublist b) : SortE a := List.Pairwise.sublist hs h
theorem lft_some {i : Nat} {es : List En} {ks : List (List En)} {x : En} (hx : es[i]? = some x) : lftN (i + 1) es ks = inter (es.take i) (ks.take (i + 1)) ++ [x] := by rw [lft_succ, hx]; rfl
theorem rgt_some {i : Nat} {es : List En} {ks : List (List En)} {x : En} (hx : es[i]? = some x) : rgtN i es ks = x :: inter (es.drop (i + 1)) (ks.drop (i + 1)) := by unfold rgtN; rw [hx]
theorem rgt_none {i : Nat} {es : List En} {ks : List (List En)} (hx : es[i]? = none) : rgtN i es ks = [] := by unfold rgtN; rw [hx]
theorem rgt_head (i : Nat) (es : List En) (ks : List (List En)) : (rgtN i es ks).head? = es[i]? := by
  cases h : es[i]? with
  | none => rw [rgt_none h]; rfl
  | some x => rw [rgt_some h]; rfl
theorem lft_last {i : Nat} {es : List En} {ks : List (List En)} (hi : i < es.length) : (lftN (i + 1) es ks).getLast? = es[i]? := by
  have h := List.getElem?_eq_getElem hi
  rw [h, lft_some h, last_app _ (by simp)]
  rfl
theorem lft_lt {i : Nat} {es : List En} {ks : List (List En)} {e : En} (hi : i ≤ es.length) (hs : SortE (lftN i es ks)) (h : ∀ x, 0 < i → es[i - 1]? = some x → cmpE x e < 0) : ∀ a ∈ lftN i es ks, cmpE a e < 0 := by
  cases i with
  | zero => intro a ha; cases ha
  | succ i =>
    have hx := List.getElem?_eq_getElem (show i < es.length by omega)
    have h1 := h _ (by omega) (show es[i + 1 - 1]? = some es[i] from hx)
    rw [lft_some hx] at hs ⊢
    obtain ⟨_, _, h4⟩ := List.pairwise_append.1 hs
    intro a ha
    rcases List.mem_append.1 ha with ha | ha
    · exact ltE_trans (h4 a ha _ (by simp)) h1
    · rw [List.mem_singleton.1 ha]; exact h1
theorem lft_le {i : Nat} {es : List En} {ks : List (List En)} {e : En} (hi : i ≤ es.length) (hs : SortE (lftN i es ks)) (h : ∀ x, 0 < i → es[i - 1]? = some x → ¬ cmpE e x < 0) : ∀ a ∈ lftN i es ks, ¬ cmpE e a < 0 := by
  cases i with
  | zero => intro a ha; cases ha
  | succ i =>
    have hx := List.getElem?_eq_getElem (show i < es.length by omega)
    have h1 := h _ (by omega) (show es[i + 1 - 1]? = some es[i] from hx)
    rw [lft_some hx] at hs ⊢
    obtain ⟨_, _, h4⟩ := List.pairwise_append.1 hs
    intro a ha
    rcases List.mem_append.1 ha with ha | ha
    · exact fun hc => h1 (ltE_trans hc (h4 a ha _ (by simp)))
    · rw [List.mem_singleton.1 ha]; exact h1
theorem rgt_gt {i : Nat} {es : List En} {ks : List (List En)} {e : En} (hs : SortE (rgtN i es ks)) (h : ∀ x, es[i]? = some x → cmpE e x < 0) : ∀ c ∈ rgtN i es ks, cmpE e c < 0 := by
  cases hx : es[i]? with
  | none => rw [rgt_none hx]; intro c hc; cases hc
  | some x =>
    rw [rgt_some hx] at hs ⊢
    intro c hc
    rcases List.mem_cons.1 hc with rfl | hc
    · exact h _ hx
    · exact ltE_trans (h _ hx) ((List.pairwise_cons.1 hs).1 c hc)
theorem rgt_ge {i : Nat} {es : List En} {ks : List (List En)} {e : En} (hs : SortE (rgtN i es ks)) (h : ∀ x, es[i]? = some x → ¬ cmpE x e < 0) : ∀ c ∈ rgtN i es ks, ¬ cmpE c e < 0 := by
  cases hx : es[i]? with
  | none => rw [rgt_none hx]; intro c hc; cases hc
  | some x =>
    rw [rgt_some hx] at hs ⊢
    intro c hc
    rcases List.mem_cons.1 hc with rfl | hc
    · exact h _ hx
    · exact fun h2 => h _ hx (ltE_trans ((List.pairwise_cons.1 hs).1 c hc) h2)

/-- how many stand ahead of one, or are that one. -/
def upE (e : En) (l : List En) : Nat := if hasE e l then ahE e l + 1 else ahE e l
theorem up_le {e : En} {l : List En} (hs : SortE l) : upE e l ≤ l.length := by
  unfold upE
  split
  · rename_i h
    have := (List.getElem?_eq_some_iff.1 ((ah_find hs).2 (hasE_iff.1 h))).1
    omega
  · exact ah_le e l
theorem up_lt {e : En} {l : List En} (hs : SortE l) (j : Nat) (x : En) (hj : j < upE e l) (hx : l[j]? = some x) : ¬ cmpE e x < 0 := by
  unfold upE at hj
  split at hj
  · rename_i h
    rcases Nat.lt_or_ge j (ahE e l) with h1 | h1
    · exact ltE_asymm (ah_lt e l j x h1 hx)
    · have h2 := (ah_find hs).2 (hasE_iff.1 h)
      obtain rfl : j = ahE e l := by omega
      rw [h2] at hx
      cases hx
      exact ltE_irrefl
  · exact ltE_asymm (ah_lt e l j x hj hx)
theorem up_ge {e : En} {l : List En} (hs : SortE l) (j : Nat) (x : En) (hj : upE e l ≤ j) (hx : l[j]? = some x) : cmpE e x < 0 := by
  have h0 : ahE e l ≤ j := by unfold upE at hj; split at hj <;> omega
  have h1 := ah_ge hs j x h0 hx
  rcases ltE_total e x with h | h | h
  · exact h
  · exfalso
    have hm : e ∈ l := by rw [h]; exact List.mem_of_getElem? hx
    have h2 := (ah_find hs).2 hm
    unfold upE at hj
    rw [if_pos (hasE_iff.2 hm)] at hj
    have hl := (List.getElem?_eq_some_iff.1 hx)
    have hl2 := (List.getElem?_eq_some_iff.1 h2)
    have h3 := List.pairwise_iff_getElem.1 hs _ _ hl2.1 hl.1 (by omega)
    rw [hl.2, hl2.2, h] at h3
    exact ltE_irrefl h3
  · omega
theorem after_leaf {e : En} {l : List En} (hs : SortE l) : afterE e l = l[upE e l]? := by
  have h := after_mid (A := l.take (upE e l)) (k := []) (C := l.drop (upE e l)) (e := e) (fun a ha => by
    obtain ⟨j, hj⟩ := List.mem_iff_getElem?.1 ha
    rw [List.getElem?_take] at hj
    split at hj
    · exact up_lt hs j a (by assumption) hj
    · cases hj) (fun c hc => by
    obtain ⟨j, hj⟩ := List.mem_iff_getElem?.1 hc
    rw [List.getElem?_drop] at hj
    exact up_ge hs _ c (by omega) hj)
  rw [List.append_nil, List.take_append_drop] at h
  rw [h, List.head?_drop]
  simp [afterE]
theorem before_leaf {e : En} {l : List En} (hs : SortE l) : beforeE e l = if ahE e l = 0 then none else l[ahE e l - 1]? := by
  have h := before_mid (A := l.take (ahE e l)) (k := []) (C := l.drop (ahE e l)) (e := e) (fun a ha => by
    obtain ⟨j, hj⟩ := List.mem_iff_getElem?.1 ha
    rw [List.getElem?_take] at hj
    split at hj
    · exact ah_lt e l j a (by assumption) hj
    · cases hj) (fun c hc => by
    obtain ⟨j, hj⟩ := List.mem_iff_getElem?.1 hc
    rw [List.getElem?_drop] at hj
    have := ah_ge hs _ c (show ahE e l ≤ ahE e l + j by omega) hj
    omega)
  rw [List.append_nil, List.take_append_drop] at h
  rw [h]
  simp only [beforeE, Option.none_or]
  have hle := ah_le e l
  split
  · rename_i h0; rw [h0]; rfl
  · rw [List.getLast?_eq_getElem?, List.length_take, Nat.min_eq_left hle, List.getElem?_take, if_pos (by omega)]

section
variable {n i : Nat} {t k : Nd} {e : En}
theorem flat_kid (h : WfN (n + 1) t) (hk : t.kids[i]? = some k) : flatN (n + 1) t = lftN i t.es (t.kids.map (flatN n)) ++ flatN n k ++ rgtN i t.es (t.kids.map (flatN n)) :=
  inter_kid (by rw [List.length_map]; exact h.1) (by rw [List.getElem?_map, hk]; rfl)
theorem flat_es (hs : SortE (flatN n t)) : SortE t.es := by
  cases n with
  | zero => exact hs
  | succ n => exact sort_sub hs (es_sub _ _)
theorem flat_mem (h : e ∈ t.es) : e ∈ flatN n t := by
  cases n with
  | zero => exact h
  | succ n => exact (es_sub _ _).subset h
/-- an entry that is none of a node's own: all else stands beside the kid at its place. -/
theorem beside (h : WfN (n + 1) t) (hs : SortE (flatN (n + 1) t)) (hk : t.kids[ahE e t.es]? = some k) (he : hasE e t.es = false) :
    (∀ a ∈ lftN (ahE e t.es) t.es (t.kids.map (flatN n)), cmpE a e < 0) ∧ ∀ c ∈ rgtN (ahE e t.es) t.es (t.kids.map (flatN n)), cmpE e c < 0 := by
  have h1 := flat_kid h hk
  have hes := flat_es hs
  rw [h1] at hs
  obtain ⟨_, _, _, _, h5, h6⟩ := sort_mid hs
  have hu : upE e t.es = ahE e t.es := by unfold upE; rw [he]; rfl
  exact ⟨lft_lt (ah_le _ _) h5 fun x h0 hx => ah_lt e _ _ x (by omega) hx, rgt_gt h6 fun x hx => up_ge hes _ x (by omega) hx⟩
theorem has_desc (h : WfN (n + 1) t) (hs : SortE (flatN (n + 1) t)) (hk : t.kids[ahE e t.es]? = some k) (he : hasE e t.es = false) : hasE e (flatN (n + 1) t) = hasE e (flatN n k) := by
  obtain ⟨h1, h2⟩ := beside h hs hk he
  rw [Bool.eq_iff_iff, hasE_iff, hasE_iff, flat_kid h hk, mem_mid h1 h2]
theorem after_desc (h : WfN (n + 1) t) (hs : SortE (flatN (n + 1) t)) (hk : t.kids[upE e t.es]? = some k) : afterE e (flatN (n + 1) t) = (afterE e (flatN n k)).or t.es[upE e t.es]? := by
  have h1 := flat_kid h hk
  have hes := flat_es hs
  rw [h1] at hs
  obtain ⟨_, _, _, _, h5, h6⟩ := sort_mid hs
  rw [h1, after_mid (lft_le (up_le hes) h5 fun x h0 hx => up_lt hes _ x (by omega) hx) (rgt_gt h6 fun x hx => up_ge hes _ x (Nat.le_refl _) hx), rgt_head]
theorem before_desc (h : WfN (n + 1) t) (hs : SortE (flatN (n + 1) t)) (hk : t.kids[ahE e t.es]? = some k) : beforeE e (flatN (n + 1) t) = (beforeE e (flatN n k)).or (if ahE e t.es = 0 then none else t.es[ahE e t.es - 1]?) := by
  have h1 := flat_kid h hk
  have hes := flat_es hs
  rw [h1] at hs
  obtain ⟨_, _, _, _, h5, h6⟩ := sort_mid hs
  rw [h1, before_mid (lft_lt (ah_le _ _) h5 fun x h0 hx => ah_lt e _ _ x (by omega) hx) (rgt_ge h6 fun x hx => by have := ah_ge hes _ x (Nat.le_refl _) hx; omega)]
  congr 1
  split
  · rename_i h0; rw [h0]; rfl
  · rename_i h0
    have hle := ah_le e t.es
    obtain ⟨j, hj⟩ : ∃ j, ahE e t.es = j + 1 := ⟨ahE e t.es - 1, by omega⟩
    rw [hj, lft_last (by omega)]
    rfl
theorem flat_ne (h : WfN n t) (h1 : 1 ≤ t.es.length) : flatN n t ≠ [] := by
  intro hc
  have h2 : t.es.Sublist (flatN n t) := by
    cases n with
    | zero => exact List.Sublist.refl _
    | succ n => exact es_sub _ _
  rw [hc] at h2
  have := h2.length_le
  simp at this
  rw [this] at h1
  simp at h1
theorem first_desc (h : WfN (n + 1) t) (hk : t.kids[0]? = some k) (hn : flatN n k ≠ []) : (flatN (n + 1) t).head? = (flatN n k).head? := by
  rw [flat_kid h hk]
  show ([] ++ flatN n k ++ _).head? = _
  rw [List.nil_append, head_app _ hn]
theorem last_desc (h : WfN (n + 1) t) (hk : t.kids[t.es.length]? = some k) (hn : flatN n k ≠ []) : (flatN (n + 1) t).getLast? = (flatN n k).getLast? := by
  rw [flat_kid h hk, rgt_none (List.getElem?_eq_none (Nat.le_refl _)), List.append_nil, last_app _ hn]
end
end Go.Proofs.YtfpkkobclkdniaaGreatDoor

namespace Go.Proofs.YtfpkkobclkdniaaGreatDoor
open Go.RowKit Go.Sort

end Go.Proofs.YtfpkkobclkdniaaGreatDoor

namespace Go.Proofs.YtfpkkobclkdniaaGreatDoor
open Go.RowKit Go.Sort

end Go.Proofs.YtfpkkobclkdniaaGreatDoor

namespace Go.Proofs.YtfpkkobclkdniaaGreatDoor
open Go.RowKit Go.Sort

/-- an entry and true; a zero one and false. -/
def retO (o : Option En) : Value := match o with
  | some x => .tuple #[.agg #[.string x.1, .int .i64 x.2], .bool true]
  | none => .tuple #[.agg #[.string ⟨#[]⟩, .int .i64 0], .bool false]
theorem retO_some (k : ByteArray) (i : Int) : retO (some (k, i)) = .tuple #[.agg #[.string k, .int .i64 i], .bool true] := rfl
theorem retO_none : retO none = .tuple #[.agg #[.string ⟨#[]⟩, .int .i64 0], .bool false] := rfl
/-- what a walk has made by itself: the entry that came in, the answer to be. -/
theorem box2_any (w : World) (k : ByteArray) (i : Int) : ∃ W0, (w.alloc (.cells #[.string k, .int .i64 i] 58)).alloc (.cells #[.string ⟨#[]⟩, .int .i64 0] 58) = W0 ∧ Below w.heap.size w W0 ∧ W0.heap.size = w.heap.size + 2 ∧ W0.cell? ⟨w.heap.size, 0, none⟩ = some (.string k) ∧ W0.cell? ⟨w.heap.size, 1, none⟩ = some (.int .i64 i) ∧ W0.heap[w.heap.size + 1]? = some (.cells #[.string ⟨#[]⟩, .int .i64 0] 58) := by
  obtain ⟨W1, h1, h2, h3, h4, h5⟩ := box_any w k i
  rw [h1]
  have hB : Below W1.heap.size W1 (W1.alloc (.cells #[.string ⟨#[]⟩, .int .i64 0] 58)) := (Below.refl _ _).alloc (Nat.le_refl _) _
  refine ⟨_, rfl, h2.trans (hB.mono h2.size), by simp [h3], (hB.cell (lt_of_cell h4)).trans h4, (hB.cell (lt_of_cell h5)).trans h5, ?_⟩
  rw [← h3]; exact heap_alloc_new _ _
theorem row2_of {w : World} {b : Nat} {k : ByteArray} {i : Int} (h : w.heap[b]? = some (.cells #[.string k, .int .i64 i] 58)) : w.cell? ⟨b, 0, none⟩ = some (.string k) ∧ w.cell? ⟨b, 1, none⟩ = some (.int .i64 i) ∧ (∀ j, w.frozen? ⟨b, j, none⟩ = false) ∧ b < w.heap.size :=
  ⟨by simp [World.cell?, h], by simp [World.cell?, h], fun j => by simp [World.frozen?, h], lt_of_heap h⟩

end Go.Proofs.YtfpkkobclkdniaaGreatDoor

namespace Go.Proofs.YtfpkkobclkdniaaGreatDoor
open Go.RowKit

/-- an entry of a row. -/
theorem row_entry {base : Nat} {w : World} {v : Value} {l : List En} {j : Nat} {x : En} (h : w.ownsRow base 58 2 v l.length (encEns l)) (hx : l[j]? = some x) :
    ∃ B c, v = .slice (some ⟨B, 0, none⟩) l.length c ∧ l.length ≤ c ∧ c ≤ 9223372036854775807 ∧ w.cell? ⟨B, j * 2, none⟩ = some (.string x.1) ∧ w.cell? ⟨B, j * 2 + 1, none⟩ = some (.int .i64 x.2) ∧ ∀ j, w.frozen? ⟨B, j, none⟩ = false := by
  have hj := (List.getElem?_eq_some_iff.1 hx).1
  obtain ⟨B, c, hv, h1, h2, h3, h4⟩ := own_cells0 h (by omega)
  exact ⟨B, c, hv, h1, h2, h3 _ _ (by have := flat_at encEn_len l j 0 x (.string x.1) hx rfl; rwa [Nat.add_zero] at this), h3 _ _ (flat_at encEn_len l j 1 x (.int .i64 x.2) hx rfl), h4⟩
/-- a slice of entries that was made since. -/
structure OwE (w0 : World) (B : Nat) (s : Value) (l : List En) (w : World) : Prop where
  below : Below w0.heap.size w0 w
  own : w.ownsRow B 58 2 s l.length (encEns l)
  le : w0.heap.size ≤ B
theorem OwE.same {w0 w w' : World} {B : Nat} {s : Value} {l : List En} (h : OwE w0 B s l w) (hb : Below w.heap.size w w') : OwE w0 B s l w' :=
  ⟨h.below.trans (hb.mono h.below.size), own_keep h.own fun a ha => hb.block a (own_lt h.own ha), h.le⟩
theorem OwE.nil {w0 w : World} {B : Nat} (h : Below w0.heap.size w0 w) (hB : w0.heap.size ≤ B) : OwE w0 B (.slice none 0 0) [] w := ⟨h, World.ownsRow_nil _ _ _ _, hB⟩
theorem OwE.slice {w0 w : World} {B : Nat} {s : Value} {l : List En} (h : OwE w0 B s l w) : ∃ a c, s = .slice a l.length c := slice_of_rowE h.own
theorem OwE.ne {w0 w : World} {B : Nat} {s : Value} {l : List En} (h : OwE w0 B s l w) {b : Nat} (hb : b < B ∨ w.heap.size ≤ b) : s.ownBlock ≠ some b := fun e => by
  have := h.own.lt b e
  omega
/-- an entry is appended. -/
theorem append_en {ops : Array Oper} {rest : List Oper} {o : Oper} {a : Act} {Q : Exit → Act → World → Prop} (hgd : o.guard = none) (s x : Operand)
    (ho : o.op = .call { callee := .builtin .append, args := #[s, x], argTypes := #[53, 53] })
    {w0 w : World} {B : Nat} {sv : Value} {l : List En} (h : OwE w0 B sv l w) (hBw : B ≤ w.heap.size) (p : En) (hs : a.eval s = sv) (H : Nat) (hx : a.eval x = .slice (some ⟨H, 0, none⟩) 1 1) (hH : w.heap.size = H) (hl : l.length ≤ 1000000)
    (k : ∀ sv' w', OwE w0 B sv' (l ++ [p]) w' → w.heap.size ≤ w'.heap.size → (∀ b, b < w.heap.size → sv.ownBlock ≠ some b → w'.heap[b]? = w.heap[b]?) → wpList Tryz.prog ops Q rest (a.put o.dst sv') w') : wpList Tryz.prog ops Q (o :: rest) a (w.alloc (.cells #[.string p.1, .int .i64 p.2] 58)) := by
  subst hH
  obtain ⟨i0, hi, hz0, hz1, hz2⟩ := info_parts infoE
  have hB : Below w.heap.size w (w.alloc (.cells #[.string p.1, .int .i64 p.2] 58)) := (Below.refl _ _).alloc (Nat.le_refl _) _
  have h1 := h.same hB
  have hsz : (w.alloc (.cells #[.string p.1, .int .i64 p.2] 58)).heap.size = w.heap.size + 1 := by simp
  have hnews : ∀ j u, ([Value.string p.1, .int .i64 p.2])[j]? = some u → (w.alloc (.cells #[.string p.1, .int .i64 p.2] 58)).cell? ((⟨w.heap.size, 0, none⟩ : Addr).add j) = some u := by
    have hh : (w.alloc (.cells #[.string p.1, .int .i64 p.2] 58)).heap[w.heap.size]? = some (.cells #[.string p.1, .int .i64 p.2] 58) := heap_alloc_new w _
    exact World.news_of_block hh
  refine wpList_append_lies _ hgd s x 53 ho B 58 i0 _ 2 24 Tryz.underlying53 hi hz0 hz1 hz2 rfl (by decide) sv l.length (encEns l) hs h1.own ⟨w.heap.size, 0, none⟩ 1 1 [Value.string p.1, .int .i64 p.2] hx (by simp) hnews (encEn_one p) (by omega) (by unfold maxLen; omega) (by omega) (by omega) _ rfl ?_
  intro g cap w3 hown3 hgrow3 hlie hlt3
  refine k _ w3 ⟨h1.below.grown hgrow3 h1.below.size (fun k e => ?_), ?_, h.le⟩ ?_ fun b hb hne => ?_
  · have := (h.own.lt k e).1
    have := h.le
    omega
  · rw [List.length_append, encEns_append]; exact hown3
  · have := hgrow3.size; omega
  · rw [hgrow3.block b (by omega) (fun e => hne e.symm)]
    exact hB.block b hb
theorem text_ext {a b : ByteArray} (h : a.toList = b.toList) : a = b := cmpT_eq (by unfold cmpT; rw [h]; exact good_cmpT.refl b)
theorem with_nil (e : En) (p : Bool) : withL e p [] = if p then [] else [e] := rfl
theorem with_eq (e : En) (p : Bool) (l : List En) : withL e p (e :: l) = withL e p l := by rw [withL, if_pos rfl]
theorem with_put {e x : En} {l : List En} (h : x ≠ e) (h2 : cmpE e x < 0) : withL e false (x :: l) = e :: x :: withL e true l := by rw [withL, if_neg h, if_pos ⟨rfl, h2⟩]
theorem with_more {e x : En} {p : Bool} {l : List En} (h : x ≠ e) (h2 : ¬ (p = false ∧ cmpE e x < 0)) : withL e p (x :: l) = x :: withL e p l := by rw [withL, if_neg h, if_neg h2]
theorem has_snoc {e x : En} {l : List En} {j : Nat} (h : l[j]? = some x) : hasE e (l.take (j + 1)) = (hasE e (l.take j) || cmpE x e == 0) := by
  unfold hasE
  rw [List.take_add_one, h]
  simp
theorem drop_at {l : List En} {j : Nat} {x : En} (h : l[j]? = some x) : l.drop j = x :: l.drop (j + 1) := by
  have hj := (List.getElem?_eq_some_iff.1 h).1
  rw [List.drop_eq_getElem_cons hj, (List.getElem?_eq_some_iff.1 h).2]
set_option maxRecDepth 100000 in
set_option maxHeartbeats 4000000 in
theorem With_any (l : List En) (lv : Value) (B0 : Nat) (e : En) (inn : Bool) (w : World) (h : w.ownsRow B0 58 2 lv l.length (encEns l)) (hl : l.length ≤ 100000) :
    Calls Tryz.prog 27 #[lv, .agg #[.string e.1, .int .i64 e.2], .bool inn] w fun r w' => ∃ v', r = .returned (.tuple #[v', .bool (hasE e l != inn)]) ∧ OwE w (w.heap.size + 1) v' (withL e (!inn) l) w' := by
  obtain ⟨ek, ei⟩ := e
  obtain ⟨W0, hW0, hwW, hs0, k0, k1⟩ := box_any w ek ei
  obtain ⟨la, lc, rfl⟩ := slice_of_rowE h
  obtain ⟨N, hN⟩ : ∃ N, l.length = N := ⟨_, rfl⟩
  rw [hN] at h ⊢
  have HH := (show Hid _ from And.intro h (And.intro hwW (And.intro hN hl)))
  clear h hwW hl hN
  go_enter Tryz.func27, Tryz.ntmps27
  go_wp2
  go_loopg [8, 9, 10, 12, 17] N (fun gg ov wz pz xz i wr => ∃ (j : Nat) (o : List En) (p : Bool), j ≤ N ∧ N - j ≤ gg ∧ i = .int .i64 j ∧ wz = .bool (hasE (ek, ei) (l.take j)) ∧ pz = .bool p ∧ Aside (OwE w (w.heap.size + 1) ov o wr ∧ o.length ≤ 2 * j ∧ withL (ek, ei) (!inn) l = o ++ withL (ek, ei) p (l.drop j) ∧ wr.cell? ⟨w.heap.size, 0, none⟩ = some (.string ek) ∧ wr.cell? ⟨w.heap.size, 1, none⟩ = some (.int .i64 ei)))
  case atStart =>
    obtain ⟨-, hwW, -, -⟩ := HH.out
    exact ⟨0, [], !inn, Nat.zero_le _, by omega, rfl, rfl, rfl, OwE.nil hwW (by omega), by simp, rfl, k0, k1⟩
  case round =>
    obtain ⟨j, o, p, hjN, hgg, rfl, rfl, rfl, HR⟩ := hrel
    obtain ⟨hrow, hol, hwl, kr0, kr1⟩ := HR.out
    clear HR k0 k1
    obtain ⟨oa, oc, rfl⟩ := hrow.slice
    have hlt : w.heap.size < wr.heap.size := lt_of_cell kr0
    have hwl' := hwl
    obtain ⟨q, hq⟩ : ∃ q, o.length = q := ⟨_, rfl⟩
    rw [hq] at hrow hol ⊢
    by_cases hj : j < N
    · obtain ⟨hl0, -, hN, hl⟩ := HH.out
      obtain ⟨⟨xk, xi⟩, hx⟩ : ∃ x, l[j]? = some x := ⟨_, List.getElem?_eq_getElem (by omega)⟩
      have hlr := own_keep (W' := wr) hl0 fun a ha => hrow.below.block a (own_lt hl0 ha)
      rw [← hN] at hlr
      obtain ⟨B, c, hv, hc1, hc2, e0, e1, ef⟩ := row_entry hlr hx
      rw [hN] at hlr hv hc1
      obtain ⟨rfl, rfl⟩ : la = some ⟨B, 0, none⟩ ∧ lc = c := by
        simp only [Value.slice.injEq, true_and] at hv; exact hv
      obtain ⟨W5, hW5, hb5, hs5, m0, m1⟩ := box_any wr xk xi
      have hlt5 : w.heap.size < W5.heap.size := by omega
      have kr0' : W5.cell? ⟨w.heap.size, 0, none⟩ = some (.string ek) := (hb5.cell hlt).trans kr0
      have kr1' : W5.cell? ⟨w.heap.size, 1, none⟩ = some (.int .i64 ei) := (hb5.cell hlt).trans kr1
      have hne5 : (Value.slice oa q oc).ownBlock ≠ some w.heap.size ∧ (Value.slice oa q oc).ownBlock ≠ some wr.heap.size := ⟨hrow.ne (.inl (by omega)), hrow.ne (.inr (Nat.le_refl _))⟩
      have hrow5 := hrow.same hb5
      have hhas := has_snoc (e := (ek, ei)) hx
      rw [drop_at hx] at hwl
      obtain ⟨z, hz⟩ : ∃ z, hasE (ek, ei) (l.take j) = z := ⟨_, rfl⟩
      rw [hz] at hhas ⊢
      have hq2 : o.length ≤ 200000 := by omega
      have HE := (show Hid _ from And.intro hrow5 (And.intro hol (And.intro hwl (And.intro hhas (And.intro hl (And.intro hgg (And.intro hjN (And.intro hq (And.intro hN (And.intro hne5 hq2))))))))))
      have zj : (j : Int) < (N : Int) := by omega
      have hbel0 := Below_any (ek, ei) (xk, xi) W5
      have HB := (show Hid _ from hbel0)
      clear hlr hl0 hrow hrow5 hol hwl hwl' hhas hx hl hgg hjN hz hq hN hv hb5 hne5 hbel0 hq2
      rcases Classical.em (xk = ek) with hke | hke
      · subst hke
        rcases Classical.em (xi = ei) with hie | hie
        · subst hie
          go_wp2_with fail
          go_roundg (N - (j + 1))
          case measure => (obtain ⟨-, -, -, -, -, h6, h7, -⟩ := HE.out; clear HE; omega)
          case rel =>
            obtain ⟨h1, h2, h3, h4, h5, h6, h7, h8, h9, -⟩ := HE.out
            refine ⟨j + 1, o, p, by omega, by omega, by simp, ?_, rfl, h1, by omega, ?_, kr0', kr1'⟩
            · rw [h4, good_cmpE.refl]; simp
            · rw [h3, with_eq]
        · have hne : ((xk, xi) : En) ≠ (xk, ei) := fun e => hie (by cases e; rfl)
          rcases p with _ | _
          · by_cases hlt2 : cmpE (xk, ei) (xk, xi) < 0
            · have hbel := HB.out
              rw [decide_eq_true hlt2] at hbel
              go_wp2_with fail
              refine Calls.mono hbel ?_
              rintro e w6 ⟨rfl, hb6⟩
              have kz0 := (hb6.cell (p := ⟨w.heap.size, 0, none⟩) hlt5).trans kr0'
              have kz1 := (hb6.cell (p := ⟨w.heap.size, 1, none⟩) hlt5).trans kr1'
              have mz0 := (hb6.cell (p := ⟨wr.heap.size, 0, none⟩) (by show wr.heap.size < _; omega)).trans m0
              have mz1 := (hb6.cell (p := ⟨wr.heap.size, 1, none⟩) (by show wr.heap.size < _; omega)).trans m1
              have hs6 := hb6.size
              have H6 := (show Hid _ from HE.out.1.same hb6)
              clear hbel HB kr0 kr1 kr0' kr1' m0 m1 hb6
              go_wp2_with (first | (at_builtin; refine append_en rfl (.tmp 31) (.tmp 33) rfl H6.out (by omega) (xk, ei) rfl _ rfl rfl (by have := HE.out.2.2.2.2.2.2.2.2.2.2; omega) ?_; intro s1 u1 h1 hz1 hk1; have y0 := (World.cell?_of_block (a := ⟨w.heap.size, 0, none⟩) (hk1 w.heap.size (by omega) HE.out.2.2.2.2.2.2.2.2.2.1.1)).trans kz0; have y1 := (World.cell?_of_block (a := ⟨w.heap.size, 1, none⟩) (hk1 w.heap.size (by omega) HE.out.2.2.2.2.2.2.2.2.2.1.1)).trans kz1; have x0 := (World.cell?_of_block (a := ⟨wr.heap.size, 0, none⟩) (hk1 wr.heap.size (by omega) HE.out.2.2.2.2.2.2.2.2.2.1.2)).trans mz0; have x1 := (World.cell?_of_block (a := ⟨wr.heap.size, 1, none⟩) (hk1 wr.heap.size (by omega) HE.out.2.2.2.2.2.2.2.2.2.1.2)).trans mz1; have H7 := (show Hid _ from h1); clear h1 hk1 kz0 kz1 mz0 mz1; have hdone : True := trivial) | (at_builtin; refine append_en rfl (.tmp 35) (.tmp 37) rfl H7.out (by omega) (xk, xi) rfl _ rfl rfl (by have := HE.out.2.2.2.2.2.2.2.2.2.2; simp; omega) ?_; intro s2 u2 h2 hz2 hk2; have H2 := (show Hid _ from And.intro h2 (And.intro ((World.cell?_of_block (a := ⟨w.heap.size, 0, none⟩) (hk2 w.heap.size (by omega) (H7.out.ne (.inl (by omega))))).trans y0) ((World.cell?_of_block (a := ⟨w.heap.size, 1, none⟩) (hk2 w.heap.size (by omega) (H7.out.ne (.inl (by omega))))).trans y1))); clear h2 hz2 hk2))
              go_roundg (N - (j + 1))
              case measure => (obtain ⟨-, -, -, -, -, h6, h7, -⟩ := HE.out; clear HE; omega)
              case rel =>
                obtain ⟨h1, h2, h3, h4, h5, h6, h7, h8, h9, h10, h11⟩ := HE.out
                obtain ⟨r1, r2, r3⟩ := H2.out
                refine ⟨j + 1, o ++ [(xk, ei)] ++ [(xk, xi)], true, by omega, by omega, by simp, ?_, rfl, r1, by simp; omega, ?_, r2, r3⟩
                · rw [h4, show (cmpE (xk, xi) (xk, ei) == 0) = false from beq_false_of_ne fun e => hne (cmpE_eq e)]; simp
                · rw [h3, with_put hne hlt2]; simp
            · have hbel := HB.out
              rw [decide_eq_false hlt2] at hbel
              go_wp2_with fail
              refine Calls.mono hbel ?_
              rintro e w6 ⟨rfl, hb6⟩
              have kz0 := (hb6.cell (p := ⟨w.heap.size, 0, none⟩) hlt5).trans kr0'
              have kz1 := (hb6.cell (p := ⟨w.heap.size, 1, none⟩) hlt5).trans kr1'
              have mz0 := (hb6.cell (p := ⟨wr.heap.size, 0, none⟩) (by show wr.heap.size < _; omega)).trans m0
              have mz1 := (hb6.cell (p := ⟨wr.heap.size, 1, none⟩) (by show wr.heap.size < _; omega)).trans m1
              have hs6 := hb6.size
              have H6 := (show Hid _ from HE.out.1.same hb6)
              clear hbel HB kr0 kr1 kr0' kr1' m0 m1 hb6
              go_wp2_with (first | (at_builtin; refine append_en rfl (.tmp 35) (.tmp 37) rfl H6.out (by omega) (xk, xi) rfl _ rfl rfl (by have := HE.out.2.2.2.2.2.2.2.2.2.2; omega) ?_; intro s1 u1 h1 hz1 hk1; have H2 := (show Hid _ from And.intro h1 (And.intro ((World.cell?_of_block (a := ⟨w.heap.size, 0, none⟩) (hk1 w.heap.size (by omega) HE.out.2.2.2.2.2.2.2.2.2.1.1)).trans (by assumption : _ = some (Value.string xk))) ((World.cell?_of_block (a := ⟨w.heap.size, 1, none⟩) (hk1 w.heap.size (by omega) HE.out.2.2.2.2.2.2.2.2.2.1.1)).trans (by assumption : _ = some (Value.int .i64 ei))))); clear h1 hz1 hk1))
              go_roundg (N - (j + 1))
              case measure => (obtain ⟨-, -, -, -, -, h6, h7, -⟩ := HE.out; clear HE; omega)
              case rel =>
                obtain ⟨h1, h2, h3, h4, h5, h6, h7, h8, h9, h10, h11⟩ := HE.out
                obtain ⟨r1, r2, r3⟩ := H2.out
                refine ⟨j + 1, o ++ [(xk, xi)], false, by omega, by omega, by simp, ?_, rfl, r1, by simp; omega, ?_, r2, r3⟩
                · rw [h4, show (cmpE (xk, xi) (xk, ei) == 0) = false from beq_false_of_ne fun e => hne (cmpE_eq e)]; simp
                · rw [h3, with_more hne (fun h => absurd h.2 (by omega))]; simp
          · go_wp2_with (first | (at_builtin; refine append_en rfl (.tmp 35) (.tmp 37) rfl HE.out.1 (by omega) (xk, xi) rfl _ rfl hs5 (by have := HE.out.2.2.2.2.2.2.2.2.2.2; omega) ?_; intro s1 u1 h1 hz1 hk1; have H2 := (show Hid _ from And.intro h1 (And.intro ((World.cell?_of_block (a := ⟨w.heap.size, 0, none⟩) (hk1 w.heap.size (by omega) HE.out.2.2.2.2.2.2.2.2.2.1.1)).trans (by assumption : _ = some (Value.string xk))) ((World.cell?_of_block (a := ⟨w.heap.size, 1, none⟩) (hk1 w.heap.size (by omega) HE.out.2.2.2.2.2.2.2.2.2.1.1)).trans (by assumption : _ = some (Value.int .i64 ei))))); clear h1 hz1 hk1))
            go_roundg (N - (j + 1))
            case measure => (obtain ⟨-, -, -, -, -, h6, h7, -⟩ := HE.out; clear HE; omega)
            case rel =>
              obtain ⟨h1, h2, h3, h4, h5, h6, h7, h8, h9, h10, h11⟩ := HE.out
              obtain ⟨r1, r2, r3⟩ := H2.out
              refine ⟨j + 1, o ++ [(xk, xi)], true, by omega, by omega, by simp, ?_, rfl, r1, by simp; omega, ?_, r2, r3⟩
              · rw [h4, show (cmpE (xk, xi) (xk, ei) == 0) = false from beq_false_of_ne fun e => hne (cmpE_eq e)]; simp
              · rw [h3, with_more hne (fun h => by cases h.1)]; simp
      · have hkl : ¬ xk.toList = ek.toList := fun e => hke (text_ext e)
        have hne : ((xk, xi) : En) ≠ (ek, ei) := fun e => hke (by cases e; rfl)
        rcases p with _ | _
        · by_cases hlt2 : cmpE (ek, ei) (xk, xi) < 0
          · have hbel := HB.out
            rw [decide_eq_true hlt2] at hbel
            go_wp2_with fail
            refine Calls.mono hbel ?_
            rintro e w6 ⟨rfl, hb6⟩
            have kz0 := (hb6.cell (p := ⟨w.heap.size, 0, none⟩) hlt5).trans kr0'
            have kz1 := (hb6.cell (p := ⟨w.heap.size, 1, none⟩) hlt5).trans kr1'
            have mz0 := (hb6.cell (p := ⟨wr.heap.size, 0, none⟩) (by show wr.heap.size < _; omega)).trans m0
            have mz1 := (hb6.cell (p := ⟨wr.heap.size, 1, none⟩) (by show wr.heap.size < _; omega)).trans m1
            have hs6 := hb6.size
            have H6 := (show Hid _ from HE.out.1.same hb6)
            clear hbel HB kr0 kr1 kr0' kr1' m0 m1 hb6
            go_wp2_with (first | (at_builtin; refine append_en rfl (.tmp 31) (.tmp 33) rfl H6.out (by omega) (ek, ei) rfl _ rfl rfl (by have := HE.out.2.2.2.2.2.2.2.2.2.2; omega) ?_; intro s1 u1 h1 hz1 hk1; have y0 := (World.cell?_of_block (a := ⟨w.heap.size, 0, none⟩) (hk1 w.heap.size (by omega) HE.out.2.2.2.2.2.2.2.2.2.1.1)).trans kz0; have y1 := (World.cell?_of_block (a := ⟨w.heap.size, 1, none⟩) (hk1 w.heap.size (by omega) HE.out.2.2.2.2.2.2.2.2.2.1.1)).trans kz1; have x0 := (World.cell?_of_block (a := ⟨wr.heap.size, 0, none⟩) (hk1 wr.heap.size (by omega) HE.out.2.2.2.2.2.2.2.2.2.1.2)).trans mz0; have x1 := (World.cell?_of_block (a := ⟨wr.heap.size, 1, none⟩) (hk1 wr.heap.size (by omega) HE.out.2.2.2.2.2.2.2.2.2.1.2)).trans mz1; have H7 := (show Hid _ from h1); clear h1 hk1 kz0 kz1 mz0 mz1; have hdone : True := trivial) | (at_builtin; refine append_en rfl (.tmp 35) (.tmp 37) rfl H7.out (by omega) (xk, xi) rfl _ rfl rfl (by have := HE.out.2.2.2.2.2.2.2.2.2.2; simp; omega) ?_; intro s2 u2 h2 hz2 hk2; have H2 := (show Hid _ from And.intro h2 (And.intro ((World.cell?_of_block (a := ⟨w.heap.size, 0, none⟩) (hk2 w.heap.size (by omega) (H7.out.ne (.inl (by omega))))).trans y0) ((World.cell?_of_block (a := ⟨w.heap.size, 1, none⟩) (hk2 w.heap.size (by omega) (H7.out.ne (.inl (by omega))))).trans y1))); clear h2 hz2 hk2))
            go_roundg (N - (j + 1))
            case measure => (obtain ⟨-, -, -, -, -, h6, h7, -⟩ := HE.out; clear HE; omega)
            case rel =>
              obtain ⟨h1, h2, h3, h4, h5, h6, h7, h8, h9, h10, h11⟩ := HE.out
              obtain ⟨r1, r2, r3⟩ := H2.out
              refine ⟨j + 1, o ++ [(ek, ei)] ++ [(xk, xi)], true, by omega, by omega, by simp, ?_, rfl, r1, by simp; omega, ?_, r2, r3⟩
              · rw [h4, show (cmpE (xk, xi) (ek, ei) == 0) = false from beq_false_of_ne fun e => hne (cmpE_eq e)]; simp
              · rw [h3, with_put hne hlt2]; simp
          · have hbel := HB.out
            rw [decide_eq_false hlt2] at hbel
            go_wp2_with fail
            refine Calls.mono hbel ?_
            rintro e w6 ⟨rfl, hb6⟩
            have kz0 := (hb6.cell (p := ⟨w.heap.size, 0, none⟩) hlt5).trans kr0'
            have kz1 := (hb6.cell (p := ⟨w.heap.size, 1, none⟩) hlt5).trans kr1'
            have mz0 := (hb6.cell (p := ⟨wr.heap.size, 0, none⟩) (by show wr.heap.size < _; omega)).trans m0
            have mz1 := (hb6.cell (p := ⟨wr.heap.size, 1, none⟩) (by show wr.heap.size < _; omega)).trans m1
            have hs6 := hb6.size
            have H6 := (show Hid _ from HE.out.1.same hb6)
            clear hbel HB kr0 kr1 kr0' kr1' m0 m1 hb6
            go_wp2_with (first | (at_builtin; refine append_en rfl (.tmp 35) (.tmp 37) rfl H6.out (by omega) (xk, xi) rfl _ rfl rfl (by have := HE.out.2.2.2.2.2.2.2.2.2.2; omega) ?_; intro s1 u1 h1 hz1 hk1; have H2 := (show Hid _ from And.intro h1 (And.intro ((World.cell?_of_block (a := ⟨w.heap.size, 0, none⟩) (hk1 w.heap.size (by omega) HE.out.2.2.2.2.2.2.2.2.2.1.1)).trans (by assumption : _ = some (Value.string ek))) ((World.cell?_of_block (a := ⟨w.heap.size, 1, none⟩) (hk1 w.heap.size (by omega) HE.out.2.2.2.2.2.2.2.2.2.1.1)).trans (by assumption : _ = some (Value.int .i64 ei))))); clear h1 hz1 hk1))
            go_roundg (N - (j + 1))
            case measure => (obtain ⟨-, -, -, -, -, h6, h7, -⟩ := HE.out; clear HE; omega)
            case rel =>
              obtain ⟨h1, h2, h3, h4, h5, h6, h7, h8, h9, h10, h11⟩ := HE.out
              obtain ⟨r1, r2, r3⟩ := H2.out
              refine ⟨j + 1, o ++ [(xk, xi)], false, by omega, by omega, by simp, ?_, rfl, r1, by simp; omega, ?_, r2, r3⟩
              · rw [h4, show (cmpE (xk, xi) (ek, ei) == 0) = false from beq_false_of_ne fun e => hne (cmpE_eq e)]; simp
              · rw [h3, with_more hne (fun h => absurd h.2 (by omega))]; simp
        · go_wp2_with (first | (at_builtin; refine append_en rfl (.tmp 35) (.tmp 37) rfl HE.out.1 (by omega) (xk, xi) rfl _ rfl hs5 (by have := HE.out.2.2.2.2.2.2.2.2.2.2; omega) ?_; intro s1 u1 h1 hz1 hk1; have H2 := (show Hid _ from And.intro h1 (And.intro ((World.cell?_of_block (a := ⟨w.heap.size, 0, none⟩) (hk1 w.heap.size (by omega) HE.out.2.2.2.2.2.2.2.2.2.1.1)).trans (by assumption : _ = some (Value.string ek))) ((World.cell?_of_block (a := ⟨w.heap.size, 1, none⟩) (hk1 w.heap.size (by omega) HE.out.2.2.2.2.2.2.2.2.2.1.1)).trans (by assumption : _ = some (Value.int .i64 ei))))); clear h1 hz1 hk1))
          go_roundg (N - (j + 1))
          case measure => (obtain ⟨-, -, -, -, -, h6, h7, -⟩ := HE.out; clear HE; omega)
          case rel =>
            obtain ⟨h1, h2, h3, h4, h5, h6, h7, h8, h9, h10, h11⟩ := HE.out
            obtain ⟨r1, r2, r3⟩ := H2.out
            refine ⟨j + 1, o ++ [(xk, xi)], true, by omega, by omega, by simp, ?_, rfl, r1, by simp; omega, ?_, r2, r3⟩
            · rw [h4, show (cmpE (xk, xi) (ek, ei) == 0) = false from beq_false_of_ne fun e => hne (cmpE_eq e)]; simp
            · rw [h3, with_more hne (fun h => by cases h.1)]; simp
    · obtain ⟨-, -, hN, hl⟩ := HH.out
      obtain rfl : N = j := by omega
      rw [List.drop_of_length_le (Nat.le_of_eq hN), with_nil] at hwl
      rw [List.take_of_length_le (Nat.le_of_eq hN)]
      obtain ⟨z, hz⟩ : ∃ z, hasE (ek, ei) l = z := ⟨_, rfl⟩
      rw [hz]
      have hq2 : o.length ≤ 1000000 := by omega
      have zj : ¬ (N : Int) < (N : Int) := by omega
      have HE := (show Hid _ from And.intro hrow (And.intro hwl (And.intro hq2 (show (!z == inn) = (hasE (ek, ei) l != inn) by rw [hz]; cases z <;> cases inn <;> rfl))))
      have hle : w.heap.size + 1 ≤ wr.heap.size := hlt
      clear hrow hwl hwl' hq2 hq hN hl hz hgg hjN hj hol HH
      rcases p with _ | _
      · go_wp2_with (first | (at_builtin; refine append_en rfl (.tmp 42) (.tmp 44) rfl HE.out.1 hle (ek, ei) rfl _ rfl rfl HE.out.2.2.1 ?_; intro s1 u1 h1 hz1 hk1; have H2 := (show Hid _ from h1); clear h1 hz1 hk1))
        go_ret2
        exact ⟨s1, by rw [← HE.out.2.2.2]; rfl, by rw [HE.out.2.1]; exact H2.out⟩
      · go_wp2
        go_ret2
        refine ⟨.slice oa q oc, by rw [← HE.out.2.2.2]; rfl, ?_⟩
        rw [HE.out.2.1]
        have := HE.out.1
        simpa using this
end Go.Proofs.YtfpkkobclkdniaaGreatDoor
