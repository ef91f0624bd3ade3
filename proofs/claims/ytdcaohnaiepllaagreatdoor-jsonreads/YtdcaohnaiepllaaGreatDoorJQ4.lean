/-
  The law's many by its contract: lists. Conditions: as stated.
-/
import Derived.Test.YtdcaohnaiepllaaGreatDoorJQ3
import Derived.Test.YtdcaohnaiepllaaGreatDoorU12
namespace Go.Proofs.YtdcaohnaiepllaaGreatDoor
open Go.RowKit Go.Extern.Stop Go.Stop Go.Extern

/-- read, so deep. -/
def ReadAt (n : Nat) (D : Int) : Prop := ∀ (s : ByteArray) (_ : s.size ≤ 4096) (k : Nat) (_ : k ≤ s.size) (w : World), skip (s.data.toList.drop k) = s.data.toList.drop k → Calls Tryz.prog 22 #[.string s, .int .i64 (k : Int), .int .i64 D] w (RdA s n w (valueW n (s.data.toList.drop k)))

theorem append_el {ops : Array Oper} {rest : List Oper} {o : Oper} {a : Act} {Q : Exit → Act → World → Prop} (hgd : o.guard = none) (so xo : Operand)
    (ho : o.op = .call { callee := .builtin .append, args := #[so, xo], argTypes := #[28, 28] })
    {w : World} {B : Nat} {s : Value} {es : List El} (h : w.ownsRow (B + 1) 31 5 s es.length (encEs es)) (hB : B + 1 ≤ w.heap.size) (x : V) (al : Option Addr) (nl cl : Nat) (af : Option Addr) (nf cf : Nat)
    (hs : a.eval so = s) (H : Nat) (hx : a.eval xo = .slice (some ⟨H, 0, none⟩) 1 1) (hH : w.heap.size = H) (hlen : es.length + 1 ≤ 1000000)
    (k : ∀ (g cap : Nat) (w3 : World), w3.ownsRow (B + 1) 31 5 (.slice (some ⟨g, 0, none⟩) (es.length + 1) cap) (es.length + 1) (encEs es ++ [.int .i64 x.kind, .int .i64 x.num, .string x.text, .slice al nl cl, .slice af nf cf]) → (w.alloc (.cells #[.int .i64 x.kind, .int .i64 x.num, .string x.text, .slice al nl cl, .slice af nf cf] 31)).grownBy w3 s.ownBlock → (s.ownBlock = some g ∨ g = w.heap.size + 1) → wpList Tryz.prog ops Q rest (a.put o.dst (.slice (some ⟨g, 0, none⟩) (es.length + 1) cap)) w3) :
    wpList Tryz.prog ops Q (o :: rest) a (w.alloc (.cells #[.int .i64 x.kind, .int .i64 x.num, .string x.text, .slice al nl cl, .slice af nf cf] 31)) := by
  subst hH
  obtain ⟨i0, hi, hz0, hz1, hz2⟩ := info_parts infoV
  obtain ⟨O2, hO2⟩ : ∃ O, O = Obj.cells #[.int .i64 x.kind, .int .i64 x.num, .string x.text, .slice al nl cl, .slice af nf cf] 31 := ⟨_, rfl⟩
  rw [← hO2] at k ⊢
  have hA : Below w.heap.size w (w.alloc O2) := (Below.refl _ _).alloc (Nat.le_refl _) _
  have h1 : (w.alloc O2).ownsRow (B + 1) 31 5 s es.length (encEs es) := ownsRow_move (fun b hb hl => ⟨(h.lt b hb).1, hA.block b hl⟩) h
  have hnews : ∀ j u, [Value.int .i64 x.kind, .int .i64 x.num, .string x.text, .slice al nl cl, .slice af nf cf][j]? = some u → (w.alloc O2).cell? ((⟨w.heap.size, 0, none⟩ : Addr).add j) = some u := by
    have hh : (w.alloc O2).heap[w.heap.size]? = some O2 := heap_alloc_new w _
    rw [hO2] at hh ⊢
    exact World.news_of_block hh
  have hone : ∀ v ∈ [Value.int .i64 x.kind, .int .i64 x.num, .string x.text, .slice al nl cl, .slice af nf cf], v.oneCell' = true := by
    intro v hv
    simp only [List.mem_cons, List.not_mem_nil, or_false] at hv
    rcases hv with rfl | rfl | rfl | rfl | rfl <;> rfl
  refine wpList_append_lies _ hgd so xo 28 ho (B + 1) 31 i0 _ 5 80 Tryz.underlying28 hi hz0 hz1 hz2 rfl (by decide) s es.length (encEs es) hs h1 ⟨w.heap.size, 0, none⟩ 1 1 [Value.int .i64 x.kind, .int .i64 x.num, .string x.text, .slice al nl cl, .slice af nf cf] hx rfl hnews hone (by omega) (by unfold maxLen; omega) (by omega) (by have := hA.size; omega) _ rfl ?_
  intro g cap w3 hown3 hgrow3 hlie hlt3
  refine k g cap w3 hown3 hgrow3 ?_
  rcases hlie with e | e
  · exact .inl e
  · exact .inr (by rw [e]; simp)

/-- a list that is being read: where it stands. -/
structure MSt (kd : Int) (w wr : World) (sl fl : Value) : Prop where
  below : Below w.heap.size w wr
  row8 : wr.heap[w.heap.size]? = some (.cells #[.int .i64 kd, .int .i64 0, .string ⟨#[]⟩, sl, fl] 31 (0, 0))
  row10 : wr.heap[w.heap.size + 1]? = some (.cells #[.int .i64 0, .int .i64 0, .string ⟨#[]⟩, .slice none 0 0, .slice none 0 0] 31 (0, 0))
theorem MSt.later {kd : Int} {w wr w' : World} {sl fl : Value} (h : MSt kd w wr sl fl) (hb : Below wr.heap.size wr w') : MSt kd w w' sl fl :=
  ⟨h.below.trans (hb.mono h.below.size), (hb.block _ (lt_of_heap h.row8)).trans h.row8, (hb.block _ (lt_of_heap h.row10)).trans h.row10⟩
theorem setc_row {w : World} {b i : Nat} {cs : Array Value} {t : Nat} {v : Value} (h : w.heap[b]? = some (.cells cs t (0, 0))) : (w.setCell ⟨b, i, none⟩ v).heap[b]? = some (.cells (cs.setIfInBounds i v) t (0, 0)) := by
  have := setCell_row h (i := i) v
  simpa using this

/-- what stays to be read of a list. -/
structure LRd (s : ByteArray) (n : Nat) (RES : Except Int (V × List UInt8)) (k : Nat) (es : List El) : Prop where
  sk : skip (s.data.toList.drop k) = s.data.toList.drop k
  res : ∃ m, (s.data.toList.drop k).length < m ∧ RES = lift (elemsP (valueW n) m (es.map El.v) (s.data.toList.drop k))
theorem LRd.bad {s : ByteArray} {n : Nat} {RES : Except Int (V × List UInt8)} {k : Nat} {es : List El} (h : LRd s n RES k es) {d : Int} (hv : valueW n (s.data.toList.drop k) = .error d) : RES = .error d := by
  obtain ⟨m, hm, e⟩ := h.res
  obtain ⟨m, rfl⟩ : ∃ m', m = m' + 1 := ⟨m - 1, by omega⟩
  rw [e]
  simp only [elemsP, hv]
  rfl
theorem LRd.fin {s : ByteArray} {n : Nat} {RES : Except Int (V × List UInt8)} {k : Nat} {es : List El} (h : LRd s n RES k es) {x : V} {l f : Value} {r : List UInt8} (hv : valueW n (s.data.toList.drop k) = .ok (x, r)) (he : hd (skip r) = 93) : RES = .ok (listV ((es ++ ([⟨x, l, f⟩] : List El)).map El.v), (skip r).drop 1) := by
  obtain ⟨m, hm, e⟩ := h.res
  obtain ⟨m, rfl⟩ : ∃ m', m = m' + 1 := ⟨m - 1, by omega⟩
  rw [e]
  simp only [elemsP, hv, endsP, if_pos he, List.map_append]
  rfl
theorem LRd.no {s : ByteArray} {n : Nat} {RES : Except Int (V × List UInt8)} {k : Nat} {es : List El} (h : LRd s n RES k es) {x : V} {r : List UInt8} (hv : valueW n (s.data.toList.drop k) = .ok (x, r)) (he : ¬ hd (skip r) = 93) (hc : ¬ hd (skip r) = 44) : RES = .error 1 := by
  obtain ⟨m, hm, e⟩ := h.res
  obtain ⟨m, rfl⟩ : ∃ m', m = m' + 1 := ⟨m - 1, by omega⟩
  rw [e]
  simp only [elemsP, hv, endsP, if_neg he, if_neg hc]
  rfl
theorem valueW_skip (n : Nat) (l : List UInt8) : valueW n (skip l) = valueW n l := by
  cases n with
  | zero => rfl
  | succ n => simp only [valueW, skip_skip]
theorem elemsW_skip (n m : Nat) (acc : List V) (l : List UInt8) : elemsP (valueW n) m acc (skip l) = elemsP (valueW n) m acc l := by
  cases m with
  | zero => rfl
  | succ m => simp only [elemsP, valueW_skip]
theorem LRd.next {s : ByteArray} {n : Nat} {RES : Except Int (V × List UInt8)} {k : Nat} {es : List El} (h : LRd s n RES k es) {x : V} {l f : Value} {r : List UInt8} (hv : valueW n (s.data.toList.drop k) = .ok (x, r)) (hr : r.length ≤ (s.data.toList.drop k).length) (he : ¬ hd (skip r) = 93) (hc : hd (skip r) = 44) {k2 : Nat} (hk : s.data.toList.drop k2 = skip ((skip r).drop 1)) : LRd s n RES k2 (es ++ [⟨x, l, f⟩]) := by
  obtain ⟨m, hm, e⟩ := h.res
  obtain ⟨m, rfl⟩ : ∃ m', m = m' + 1 := ⟨m - 1, by omega⟩
  refine ⟨by rw [hk, skip_skip], m, ?_, ?_⟩
  · rw [hk]
    have h1 := skip_len ((skip r).drop 1)
    have h2 := skip_len r
    have h3 := hd_drop_lt hc (by decide)
    rw [List.length_drop] at h1
    omega
  · rw [e]
    simp only [elemsP, hv, endsP, if_neg he, if_pos hc]
    rw [hk, elemsW_skip, List.map_append]
    rfl
theorem valueW_tail : ∀ (n : Nat) (l : List UInt8) (x : V × List UInt8), valueW n l = .ok x → Tail x.2 l
  | 0, _, _, h => by cases h
  | n + 1, l, x, h => by
    simp only [valueW] at h
    split at h
    · have ht : Tail x.2 (skip l) := by
        unfold numW at h
        split at h
        · cases h
        · unfold numEnd at h
          split at h
          · cases h
          · split at h
            · cases h; exact Tail.drop _ _
            · cases h
      exact ht.trans (Tail.skip _)
    · split at h
      · exact (text_tail h).trans (Tail.skip _)
      · split at h
        · exact ((list_tail (valueW_tail n) h).trans (Tail.drop _ _)).trans (Tail.skip _)
        · split at h
          · exact ((obj_tail (valueW_tail n) h).trans (Tail.drop _ _)).trans (Tail.skip _)
          · exact (word_tail h).trans (Tail.skip _)
end Go.Proofs.YtdcaohnaiepllaaGreatDoor
