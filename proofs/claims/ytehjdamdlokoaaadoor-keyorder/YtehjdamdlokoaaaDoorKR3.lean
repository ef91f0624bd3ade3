/-
  The program's reader of keys: rows that grow. Conditions: as stated.
-/
import Derived.Test.YtehjdamdlokoaaaDoorKR2
import Derived.Test.YtehjdamdlokoaaaDoorVMade4
namespace Go.Proofs.YtehjdamdlokoaaaDoor
open Go.RowKit

/-- a row that is being read. -/
structure LsK (w0 w : World) (b n : Nat) (l : List UInt8) (s : Value) (es : List El) (wr : World) : Prop where
  rd : RdK w0 b l wr
  own : wr.ownsRow w.heap.size 28 5 s es.length (encEs es)
  rep : ∀ e ∈ es, Rep (fun c => w.heap.size ≤ c ∧ s.ownBlock ≠ some c) n wr e.v e.l e.f
  kept : KeptB b w wr
  lt : b < w.heap.size
theorem LsK.read {w0 w wr w1 : World} {b n : Nat} {l r : List UInt8} {s : Value} {es : List El} (h : LsK w0 w b n l s es wr) (K : KeptB b wr w1) (R : RdK w0 b r w1) : LsK w0 w b n r s es w1 := by
  have hlt := h.lt
  refine ⟨R, ownsRow_move (fun g hg hl => ⟨(h.own.lt g hg).1, K.block g hl ?_⟩) h.own, fun e he => (h.rep e he).move fun c hc hl => ⟨hc, K.block c hl (by have := hc.1; omega)⟩, h.kept.trans K, h.lt⟩
  have := (h.own.lt g hg).1
  omega
theorem append_val {ops : Array Oper} {rest : List Oper} {o : Oper} {a : Act} {Q : Exit → Act → World → Prop} (hgd : o.guard = none) (so xo : Operand)
    (ho : o.op = .call { callee := .builtin .append, args := #[so, xo], argTypes := #[25, 25] })
    {w0 w w1 : World} {b n : Nat} {l : List UInt8} {s : Value} {es : List El} (h : LsK w0 w b n l s es w1) (x : V) (al : Option Addr) (nl cl : Nat) (af : Option Addr) (nf cf : Nat) (hrep : Rep (fun c => w.heap.size ≤ c ∧ s.ownBlock ≠ some c) n w1 x (.slice al nl cl) (.slice af nf cf))
    (hs : a.eval so = s) (H : Nat) (hx : a.eval xo = .slice (some ⟨H, 0, none⟩) 1 1) (hH : w1.heap.size + 1 = H) (hlen : es.length + 1 ≤ 1000000) (O1 : Obj)
    (k : ∀ s' w3, LsK w0 w b n l s' (es ++ [⟨x, .slice al nl cl, .slice af nf cf⟩]) w3 → wpList Tryd.prog ops Q rest (a.put o.dst s') w3) :
    wpList Tryd.prog ops Q (o :: rest) a ((w1.alloc O1).alloc (.cells #[.int .i64 x.kind, .int .i64 x.num, .string x.text, .slice al nl cl, .slice af nf cf] 28)) := by
  obtain ⟨i0, hi, hz0, hz1, hz2⟩ := info_parts infoV
  obtain ⟨O2, hO2⟩ : ∃ O, O = Obj.cells #[.int .i64 x.kind, .int .i64 x.num, .string x.text, .slice al nl cl, .slice af nf cf] 28 := ⟨_, rfl⟩
  rw [← hO2]
  have hlt := h.lt
  have hks := h.kept.size
  have hA : Below w1.heap.size w1 ((w1.alloc O1).alloc O2) := ((Below.refl _ _).alloc (Nat.le_refl _) _).alloc (by simp) _
  have hnb : ∀ c, c < w.heap.size → some c ≠ s.ownBlock := fun c hc e => by
    have := (h.own.lt c e.symm).1
    omega
  have hown : ((w1.alloc O1).alloc O2).ownsRow w.heap.size 28 5 s es.length (encEs es) := ownsRow_move (fun g hg hl => ⟨(h.own.lt g hg).1, hA.block g hl⟩) h.own
  have hnews : ∀ j u, [Value.int .i64 x.kind, .int .i64 x.num, .string x.text, .slice al nl cl, .slice af nf cf][j]? = some u → ((w1.alloc O1).alloc O2).cell? ((⟨H, 0, none⟩ : Addr).add j) = some u := by
    have hh : ((w1.alloc O1).alloc O2).heap[H]? = some O2 := by rw [← hH]; exact heap_alloc2_new
    rw [hO2] at hh ⊢
    exact World.news_of_block hh
  have hone : ∀ v ∈ [Value.int .i64 x.kind, .int .i64 x.num, .string x.text, .slice al nl cl, .slice af nf cf], v.oneCell' = true := by
    intro v hv
    simp only [List.mem_cons, List.not_mem_nil, or_false] at hv
    rcases hv with rfl | rfl | rfl | rfl | rfl <;> rfl
  refine wpList_append_lies _ hgd so xo 25 ho w.heap.size 28 i0 _ 5 80 Tryd.underlying25 hi hz0 hz1 hz2 rfl (by decide) s es.length (encEs es) hs hown ⟨H, 0, none⟩ 1 1 [Value.int .i64 x.kind, .int .i64 x.num, .string x.text, .slice al nl cl, .slice af nf cf] hx rfl hnews hone (by omega) (by unfold maxLen; omega) (by omega) (by have := hA.size; omega) _ rfl ?_
  intro g cap w3 hown3 hgrow3 hlie hlt3
  have hbl : ∀ c, c < w1.heap.size → some c ≠ s.ownBlock → w3.heap[c]? = w1.heap[c]? := fun c hc hne => (hgrow3.block c (Nat.lt_of_lt_of_le hc hA.size) hne).trans (hA.block c hc)
  have hm : ∀ c, (w.heap.size ≤ c ∧ s.ownBlock ≠ some c) → c < w1.heap.size → (w.heap.size ≤ c ∧ (Value.slice (some ⟨g, 0, none⟩) (es.length + 1) cap).ownBlock ≠ some c) ∧ w3.heap[c]? = w1.heap[c]? := by
    intro c h1 h2
    refine ⟨⟨h1.1, ?_⟩, hbl c h2 (fun e => h1.2 e.symm)⟩
    rcases hlie with e | e
    · intro e2
      exact h1.2 (e.trans e2)
    · intro e2
      have e3 : g = c := Option.some.inj e2
      have := hA.size
      omega
  have hB3 : Below w0.heap.size w0 w3 := by
    have h1 := h.rd.below
    have h2 := h1.trans (hA.mono h1.size)
    refine h2.grown hgrow3 h2.size (fun k e => ?_)
    have := (h.own.lt k e).1
    have := h.rd.le
    omega
  refine k _ w3 ⟨⟨hB3, h.rd.le, ?_, h.rd.len⟩, ?_, ?_, ⟨hgrow3.os.trans (hA.os.trans h.kept.os), hgrow3.tape.trans (hA.tape.trans h.kept.tape), hgrow3.output.trans (hA.output.trans h.kept.output), Nat.le_trans hks (Nat.le_trans hA.size hgrow3.size), fun c hc hcb => ?_⟩, h.lt⟩
  · obtain ⟨t, e, hr⟩ := h.rd.rd
    exact ⟨t, e, (hbl b (by omega) (hnb b hlt)).trans hr⟩
  · rw [encEs_append, List.length_append]; exact hown3
  · intro e he
    rcases List.mem_append.1 he with he | he
    · exact (h.rep e he).move hm
    · rw [List.mem_singleton.1 he]; exact hrep.move hm
  · rw [hbl c (by omega) (hnb c hc)]
    exact h.kept.block c hc hcb

/-- a row that is being read. -/
structure FsK (w0 w : World) (b n : Nat) (l : List UInt8) (s : Value) (es : List Fl) (wr : World) : Prop where
  rd : RdK w0 b l wr
  own : wr.ownsRow w.heap.size 50 6 s es.length (encFs es)
  rep : ∀ e ∈ es, Rep (fun c => w.heap.size ≤ c ∧ s.ownBlock ≠ some c) n wr e.v e.l e.f
  kept : KeptB b w wr
  lt : b < w.heap.size
theorem FsK.read {w0 w wr w1 : World} {b n : Nat} {l r : List UInt8} {s : Value} {es : List Fl} (h : FsK w0 w b n l s es wr) (K : KeptB b wr w1) (R : RdK w0 b r w1) : FsK w0 w b n r s es w1 := by
  have hlt := h.lt
  refine ⟨R, ownsRow_move (fun g hg hl => ⟨(h.own.lt g hg).1, K.block g hl ?_⟩) h.own, fun e he => (h.rep e he).move fun c hc hl => ⟨hc, K.block c hl (by have := hc.1; omega)⟩, h.kept.trans K, h.lt⟩
  have := (h.own.lt g hg).1
  omega
theorem append_fld {ops : Array Oper} {rest : List Oper} {o : Oper} {a : Act} {Q : Exit → Act → World → Prop} (hgd : o.guard = none) (so xo : Operand)
    (ho : o.op = .call { callee := .builtin .append, args := #[so, xo], argTypes := #[26, 26] })
    {w0 w w1 : World} {b n : Nat} {l : List UInt8} {s : Value} {es : List Fl} (h : FsK w0 w b n l s es w1) (nm : ByteArray) (x : V) (al : Option Addr) (nl cl : Nat) (af : Option Addr) (nf cf : Nat) (hrep : Rep (fun c => w.heap.size ≤ c ∧ s.ownBlock ≠ some c) n w1 x (.slice al nl cl) (.slice af nf cf))
    (hs : a.eval so = s) (H : Nat) (hx : a.eval xo = .slice (some ⟨H, 0, none⟩) 1 1) (hH : w1.heap.size + 1 = H) (hlen : es.length + 1 ≤ 1000000) (O1 : Obj)
    (k : ∀ s' w3, FsK w0 w b n l s' (es ++ [⟨nm, x, .slice al nl cl, .slice af nf cf⟩]) w3 → wpList Tryd.prog ops Q rest (a.put o.dst s') w3) :
    wpList Tryd.prog ops Q (o :: rest) a ((w1.alloc O1).alloc (.cells #[.string nm, .int .i64 x.kind, .int .i64 x.num, .string x.text, .slice al nl cl, .slice af nf cf] 50)) := by
  obtain ⟨i0, hi, hz0, hz1, hz2⟩ := info_parts infoF
  obtain ⟨O2, hO2⟩ : ∃ O, O = Obj.cells #[.string nm, .int .i64 x.kind, .int .i64 x.num, .string x.text, .slice al nl cl, .slice af nf cf] 50 := ⟨_, rfl⟩
  rw [← hO2]
  have hlt := h.lt
  have hks := h.kept.size
  have hA : Below w1.heap.size w1 ((w1.alloc O1).alloc O2) := ((Below.refl _ _).alloc (Nat.le_refl _) _).alloc (by simp) _
  have hnb : ∀ c, c < w.heap.size → some c ≠ s.ownBlock := fun c hc e => by
    have := (h.own.lt c e.symm).1
    omega
  have hown : ((w1.alloc O1).alloc O2).ownsRow w.heap.size 50 6 s es.length (encFs es) := ownsRow_move (fun g hg hl => ⟨(h.own.lt g hg).1, hA.block g hl⟩) h.own
  have hnews : ∀ j u, [Value.string nm, .int .i64 x.kind, .int .i64 x.num, .string x.text, .slice al nl cl, .slice af nf cf][j]? = some u → ((w1.alloc O1).alloc O2).cell? ((⟨H, 0, none⟩ : Addr).add j) = some u := by
    have hh : ((w1.alloc O1).alloc O2).heap[H]? = some O2 := by rw [← hH]; exact heap_alloc2_new
    rw [hO2] at hh ⊢
    exact World.news_of_block hh
  have hone : ∀ v ∈ [Value.string nm, .int .i64 x.kind, .int .i64 x.num, .string x.text, .slice al nl cl, .slice af nf cf], v.oneCell' = true := by
    intro v hv
    simp only [List.mem_cons, List.not_mem_nil, or_false] at hv
    rcases hv with rfl | rfl | rfl | rfl | rfl | rfl <;> rfl
  refine wpList_append_lies _ hgd so xo 26 ho w.heap.size 50 i0 _ 6 96 Tryd.underlying26 hi hz0 hz1 hz2 rfl (by decide) s es.length (encFs es) hs hown ⟨H, 0, none⟩ 1 1 [Value.string nm, .int .i64 x.kind, .int .i64 x.num, .string x.text, .slice al nl cl, .slice af nf cf] hx rfl hnews hone (by omega) (by unfold maxLen; omega) (by omega) (by have := hA.size; omega) _ rfl ?_
  intro g cap w3 hown3 hgrow3 hlie hlt3
  have hbl : ∀ c, c < w1.heap.size → some c ≠ s.ownBlock → w3.heap[c]? = w1.heap[c]? := fun c hc hne => (hgrow3.block c (Nat.lt_of_lt_of_le hc hA.size) hne).trans (hA.block c hc)
  have hm : ∀ c, (w.heap.size ≤ c ∧ s.ownBlock ≠ some c) → c < w1.heap.size → (w.heap.size ≤ c ∧ (Value.slice (some ⟨g, 0, none⟩) (es.length + 1) cap).ownBlock ≠ some c) ∧ w3.heap[c]? = w1.heap[c]? := by
    intro c h1 h2
    refine ⟨⟨h1.1, ?_⟩, hbl c h2 (fun e => h1.2 e.symm)⟩
    rcases hlie with e | e
    · intro e2
      exact h1.2 (e.trans e2)
    · intro e2
      have e3 : g = c := Option.some.inj e2
      have := hA.size
      omega
  have hB3 : Below w0.heap.size w0 w3 := by
    have h1 := h.rd.below
    have h2 := h1.trans (hA.mono h1.size)
    refine h2.grown hgrow3 h2.size (fun k e => ?_)
    have := (h.own.lt k e).1
    have := h.rd.le
    omega
  refine k _ w3 ⟨⟨hB3, h.rd.le, ?_, h.rd.len⟩, ?_, ?_, ⟨hgrow3.os.trans (hA.os.trans h.kept.os), hgrow3.tape.trans (hA.tape.trans h.kept.tape), hgrow3.output.trans (hA.output.trans h.kept.output), Nat.le_trans hks (Nat.le_trans hA.size hgrow3.size), fun c hc hcb => ?_⟩, h.lt⟩
  · obtain ⟨t, e, hr⟩ := h.rd.rd
    exact ⟨t, e, (hbl b (by omega) (hnb b hlt)).trans hr⟩
  · rw [encFs_append, List.length_append]; exact hown3
  · intro e he
    rcases List.mem_append.1 he with he | he
    · exact (h.rep e he).move hm
    · rw [List.mem_singleton.1 he]; exact hrep.move hm
  · rw [hbl c (by omega) (hnb c hc)]
    exact h.kept.block c hc hcb

/-- things one behind the other, up to a byte 0. -/
def rowK {α : Type} (f : List UInt8 → Option (α × List UInt8)) : Nat → List UInt8 → Option (List α × List UInt8)
  | 0, _ => none
  | m + 1, l => if l.head? = some 0 then some ([], l.tail) else
    match f l with
    | none => none
    | some p => (rowK f m p.2).map (fun q => (p.1 :: q.1, q.2))
def fieldK (f : List UInt8 → Option (V × List UInt8)) (l : List UInt8) : Option ((ByteArray × V) × List UInt8) :=
  if l.head? = some 1 then
    match ktextP l.tail with
    | none => none
    | some p => (f p.2).map (fun q => ((⟨p.1.toArray⟩, q.1), q.2))
  else none
/-- a value, by what its first byte tells. -/
def kindK (f : List UInt8 → Option (V × List UInt8)) (k : Int) (r : List UInt8) : Option (V × List UInt8) :=
  if k = 1 then (if r.length < 1 then none else some (⟨1, wrap64 (numL (r.take 1) : Int), ⟨#[]⟩, [], []⟩, r.drop 1))
  else if k = 2 then (if r.length < 8 then none else some (⟨2, tw (wrap64 (numL (r.take 8) : Int)), ⟨#[]⟩, [], []⟩, r.drop 8))
  else if k = 3 then (ktextP r).map (fun p => (⟨3, 0, ⟨p.1.toArray⟩, [], []⟩, p.2))
  else if k = 4 then (rowK f (r.length + 1) r).map (fun p => (⟨4, 0, ⟨#[]⟩, p.1, []⟩, p.2))
  else if k = 5 then (rowK (fieldK f) (r.length + 1) r).map (fun p => (⟨5, 0, ⟨#[]⟩, [], p.1⟩, p.2))
  else some (⟨k, 0, ⟨#[]⟩, [], []⟩, r)
def valueK : Nat → List UInt8 → Option (V × List UInt8)
  | 0, _ => none
  | _ + 1, [] => none
  | n + 1, c :: r => kindK (valueK n) ((c.toNat : Int) - 1) r

/-- what is read is shorter. -/
def Less {α : Type} (f : List UInt8 → Option (α × List UInt8)) : Prop := ∀ l p, f l = some p → p.2.length < l.length
theorem text_less : ∀ (m : Nat) (l : List UInt8), l.length ≤ m → ∀ p, ktextP l = some p → p.2.length < l.length
  | _, [], _, p, h => by rw [ktextP_nil] at h; cases h
  | 0, _ :: _, hm, _, _ => by simp at hm
  | m + 1, c :: r, hm, p, h => by
    simp only [List.length_cons] at hm ⊢
    by_cases h0 : c = 0
    · subst h0
      rcases r with _ | ⟨d, r⟩
      · rw [ktextP_zero_nil] at h; cases h
      · simp only [List.length_cons] at hm ⊢
        by_cases h1 : d = 1
        · subst h1
          rw [ktextP_shut] at h
          cases h
          simp
          omega
        · by_cases h2 : d = 255
          · subst h2
            rw [ktextP_stays] at h
            obtain ⟨q, hq, rfl⟩ := Option.map_eq_some_iff.1 h
            have := text_less m r (by omega) q hq
            simp only
            omega
          · rw [ktextP_bad d r h1 h2] at h; cases h
    · rw [ktextP_more c r h0] at h
      obtain ⟨q, hq, rfl⟩ := Option.map_eq_some_iff.1 h
      have := text_less m r (by omega) q hq
      simp only
      omega
theorem rowK_less {α : Type} {f : List UInt8 → Option (α × List UInt8)} (hf : Less f) : ∀ (m : Nat) (l : List UInt8) (p : List α × List UInt8), rowK f m l = some p → p.2.length < l.length
  | 0, _, _, h => by simp [rowK] at h
  | m + 1, l, p, h => by
    unfold rowK at h
    split at h
    · rename_i h0
      cases h
      cases l with
      | nil => simp at h0
      | cons c r => simp
    · split at h
      · cases h
      · rename_i q hq
        obtain ⟨q', hq', rfl⟩ := Option.map_eq_some_iff.1 h
        have h1 := hf l q hq
        have h2 := rowK_less hf m q.2 q' hq'
        simp only
        omega
theorem fieldK_less {f : List UInt8 → Option (V × List UInt8)} (hf : Less f) : Less (fieldK f) := by
  intro l p h
  unfold fieldK at h
  split at h
  · rename_i h0
    split at h
    · cases h
    · rename_i q hq
      obtain ⟨q', hq', rfl⟩ := Option.map_eq_some_iff.1 h
      have h1 := text_less _ _ (Nat.le_refl _) q hq
      have h2 := hf _ q' hq'
      rw [List.length_tail] at h1
      simp only
      omega
  · cases h
theorem valueK_less : ∀ n, Less (valueK n)
  | 0 => fun l p h => by simp [valueK] at h
  | n + 1 => by
    intro l p h
    cases l with
    | nil => simp [valueK] at h
    | cons c r =>
      have ih := valueK_less n
      simp only [valueK, kindK] at h
      rw [List.length_cons]
      split at h
      · split at h
        · cases h
        · cases h; simp; omega
      · split at h
        · split at h
          · cases h
          · cases h; simp; omega
        · split at h
          · obtain ⟨q, hq, rfl⟩ := Option.map_eq_some_iff.1 h
            have := text_less _ _ (Nat.le_refl _) q hq
            simp only; omega
          · split at h
            · obtain ⟨q, hq, rfl⟩ := Option.map_eq_some_iff.1 h
              have := rowK_less ih _ _ q hq
              simp only; omega
            · split at h
              · obtain ⟨q, hq, rfl⟩ := Option.map_eq_some_iff.1 h
                have := rowK_less (fieldK_less ih) _ _ q hq
                simp only; omega
              · cases h; simp
end Go.Proofs.YtehjdamdlokoaaaDoor
