/-
  What is read of a key, and may be, has just that key: plain. Conditions: as stated.
-/
import Derived.Test.YtehjdamdlokoaaaDoorKR
import Derived.Test.YtehjdamdlokoaaaDoorKW
import Derived.Test.YtehjdamdlokoaaaDoorJValid
namespace Go.Proofs.YtehjdamdlokoaaaDoor
open Go.RowKit

theorem ktext_put : ∀ (m : Nat) (l : List UInt8), l.length ≤ m → ∀ p, ktextP l = some p → writtenL p.1 ++ p.2 = l
  | _, [], _, p, h => by rw [ktextP_nil] at h; cases h
  | 0, _ :: _, hm, _, _ => by simp at hm
  | m + 1, c :: r, hm, p, h => by
    simp only [List.length_cons] at hm
    by_cases h0 : c = 0
    · subst h0
      rcases r with _ | ⟨d, r⟩
      · rw [ktextP_zero_nil] at h; cases h
      · simp only [List.length_cons] at hm
        by_cases h1 : d = 1
        · subst h1
          rw [ktextP_shut] at h
          cases h
          rfl
        · by_cases h2 : d = 255
          · subst h2
            rw [ktextP_stays] at h
            obtain ⟨q, hq, rfl⟩ := Option.map_eq_some_iff.1 h
            have := ktext_put m r (by omega) q hq
            show writtenL (0 :: q.1) ++ q.2 = 0 :: 255 :: r
            rw [← this]
            simp [writtenL, wr1]
          · rw [ktextP_bad d r h1 h2] at h; cases h
    · rw [ktextP_more c r h0] at h
      obtain ⟨q, hq, rfl⟩ := Option.map_eq_some_iff.1 h
      have := ktext_put m r (by omega) q hq
      show writtenL (c :: q.1) ++ q.2 = c :: r
      rw [← this]
      simp [writtenL, wr1, h0]
theorem ktext_size (l : List UInt8) (p : List UInt8 × List UInt8) (h : ktextP l = some p) : p.1.length ≤ l.length := by
  have e := ktext_put _ l (Nat.le_refl _) p h
  have e2 := congrArg List.length e
  have h3 : ∀ q : List UInt8, q.length ≤ (q.flatMap wr1).length := by
    intro q
    induction q with
    | nil => simp
    | cons c q ih =>
      have : 1 ≤ (wr1 c).length := by unfold wr1; split <;> simp
      simp only [List.flatMap_cons, List.length_append, List.length_cons]
      omega
  have h4 := h3 p.1
  simp only [writtenL, List.length_append, List.length_cons, List.length_nil] at e2
  omega
/-- whatever stands in a row was read. -/
theorem row_each {α : Type} {f : List UInt8 → Option (α × List UInt8)} (hf : Less f) : ∀ (m : Nat) (l : List UInt8) (p : List α × List UInt8), rowK f m l = some p → ∀ x ∈ p.1, ∃ l' r', f l' = some (x, r') ∧ l'.length ≤ l.length
  | 0, _, _, h => by simp [rowK] at h
  | m + 1, l, p, h => by
    by_cases h0 : l.head? = some 0
    · rw [rowK, if_pos h0] at h
      cases h
      intro x hx; cases hx
    · rw [rowK, if_neg h0] at h
      rcases hq : f l with _ | q
      · rw [hq] at h; cases h
      · rw [hq] at h
        obtain ⟨q', hq', rfl⟩ := Option.map_eq_some_iff.1 h
        intro x hx
        rcases List.mem_cons.1 hx with rfl | hx
        · exact ⟨l, q.2, hq, Nat.le_refl _⟩
        · obtain ⟨l', r', e, hl⟩ := row_each hf m q.2 q' hq' x hx
          have := hf l q hq
          exact ⟨l', r', e, by omega⟩
theorem row_put {α : Type} {f : List UInt8 → Option (α × List UInt8)} {g : α → List UInt8} {Q : α → Prop} (hf : ∀ l p, f l = some p → Q p.1 → g p.1 ++ p.2 = l) : ∀ (m : Nat) (l : List UInt8) (p : List α × List UInt8), rowK f m l = some p → (∀ x ∈ p.1, Q x) → p.1.flatMap g ++ 0 :: p.2 = l
  | 0, _, _, h, _ => by simp [rowK] at h
  | m + 1, l, p, h, hQ => by
    by_cases h0 : l.head? = some 0
    · rw [rowK, if_pos h0] at h
      cases h
      rcases l with _ | ⟨c, l⟩
      · cases h0
      · simp only [List.head?_cons, Option.some.injEq] at h0
        subst h0
        rfl
    · rw [rowK, if_neg h0] at h
      rcases hq : f l with _ | q
      · rw [hq] at h; cases h
      · rw [hq] at h
        obtain ⟨q', hq', rfl⟩ := Option.map_eq_some_iff.1 h
        have h1 := hf l q hq (hQ _ (by simp))
        have h2 := row_put hf m q.2 q' hq' fun x hx => hQ x (by simp [hx])
        show (q.1 :: q'.1).flatMap g ++ 0 :: q'.2 = l
        rw [List.flatMap_cons, List.append_assoc, h2, h1]
theorem field_each {f : List UInt8 → Option (V × List UInt8)} (l : List UInt8) (p : (ByteArray × V) × List UInt8) (h : fieldK f l = some p) : ∃ nm r0, l = 1 :: (writtenL nm ++ r0) ∧ p.1.1 = ⟨nm.toArray⟩ ∧ f r0 = some (p.1.2, p.2) := by
  rcases l with _ | ⟨c, l⟩
  · simp [fieldK] at h
  · by_cases h0 : (c :: l).head? = some 1
    · rw [fieldK, if_pos h0] at h
      simp only [List.head?_cons, Option.some.injEq] at h0
      subst h0
      simp only [List.tail_cons] at h
      rcases hq : ktextP l with _ | q
      · rw [hq] at h; cases h
      · rw [hq] at h
        obtain ⟨q', hq', rfl⟩ := Option.map_eq_some_iff.1 h
        refine ⟨q.1, q.2, ?_, rfl, hq'⟩
        rw [ktext_put _ l (Nat.le_refl _) q hq]
    · rw [fieldK, if_neg h0] at h
      cases h
theorem numL_eight_lt (a b c d e f g h : UInt8) : numL [a, b, c, d, e, f, g, h] < 18446744073709551616 := by
  simp only [numL, List.foldl]
  have := a.toNat_lt; have := b.toNat_lt; have := c.toNat_lt; have := d.toNat_lt; have := e.toNat_lt; have := f.toNat_lt; have := g.toNat_lt; have := h.toNat_lt
  omega
theorem eight_numL (a b c d e f g h : UInt8) : eight (numL [a, b, c, d, e, f, g, h]) = [a, b, c, d, e, f, g, h] := by
  have := a.toNat_lt; have := b.toNat_lt; have := c.toNat_lt; have := d.toNat_lt; have := e.toNat_lt; have := f.toNat_lt; have := g.toNat_lt; have := h.toNat_lt
  simp only [eight, numL, List.foldl, List.cons.injEq, and_true]
  refine ⟨?_, ?_, ?_, ?_, ?_, ?_, ?_, ?_⟩ <;> (apply UInt8.toNat_inj.1; rw [UInt8.toNat_ofNat']; omega)
theorem turn_back (N : Nat) (h : N < 18446744073709551616) : turnN (tw (wrap64 (N : Int))) = N := by
  unfold turnN tw wrap64
  split <;> omega
theorem tw_I64 (N : Nat) : I64 (tw (wrap64 (N : Int))) := by
  constructor <;> (unfold tw wrap64; split <;> omega)
theorem take8 (r : List UInt8) (h : ¬ r.length < 8) : ∃ a b c d e f g i t, r = a :: b :: c :: d :: e :: f :: g :: i :: t := by
  rcases r with _ | ⟨a, _ | ⟨b, _ | ⟨c, _ | ⟨d, _ | ⟨e, _ | ⟨f, _ | ⟨g, _ | ⟨i, t⟩⟩⟩⟩⟩⟩⟩⟩
  all_goals first | (simp at h; done) | exact ⟨_, _, _, _, _, _, _, _, _, rfl⟩ | (exfalso; simp at h)
theorem VOk.kinds {n : Nat} {v : V} (h : VOk n v) : 0 ≤ v.kind ∧ v.kind ≤ 5 := by
  cases n with
  | zero => rcases h with rfl | (rfl | rfl) | ⟨m, rfl⟩ | ⟨t, rfl, _⟩ | rfl | rfl <;> simp [nulV, boolV, intV, textV, listV, objV]
  | succ n => rcases h with rfl | (rfl | rfl) | ⟨m, rfl⟩ | ⟨t, rfl, _⟩ | ⟨l, rfl, _⟩ | ⟨l, rfl, _⟩ <;> simp [nulV, boolV, intV, textV, listV, objV]
theorem VOk.lists {n : Nat} {l : List V} (h : VOk n (listV l)) : ∀ x ∈ l, ∃ m, n = m + 1 ∧ VOk m x := by
  cases n with
  | zero =>
    rcases h with h | (h | h) | ⟨m, h⟩ | ⟨t, h, _⟩ | h | h
    all_goals first | (cases h; done) | skip
    · cases h; intro x hx; cases hx
  | succ n =>
    rcases h with h | (h | h) | ⟨m, h⟩ | ⟨t, h, _⟩ | ⟨l', h, h2⟩ | ⟨l', h, _⟩
    all_goals first | (cases h; done) | skip
    · cases h; exact fun x hx => ⟨n, rfl, h2 x hx⟩
theorem VOk.objs {n : Nat} {l : List (ByteArray × V)} (h : VOk n (objV l)) : ∀ x ∈ l, ∃ m, n = m + 1 ∧ VOk m x.2 := by
  cases n with
  | zero =>
    rcases h with h | (h | h) | ⟨m, h⟩ | ⟨t, h, _⟩ | h | h
    all_goals first | (cases h; done) | skip
    · cases h; intro x hx; cases hx
  | succ n =>
    rcases h with h | (h | h) | ⟨m, h⟩ | ⟨t, h, _⟩ | ⟨l', h, h2⟩ | ⟨l', h, _, h2⟩
    all_goals first | (cases h; done) | skip
    · cases h; exact fun x hx => ⟨n, rfl, (h2 x hx).2.2⟩
theorem VOk.bool {n : Nat} {m : Int} (h : VOk n (boolV m)) : m = 0 ∨ m = 1 := by
  cases n with
  | zero =>
    rcases h with h | (h | h) | ⟨m, h⟩ | ⟨t, h, _⟩ | h | h
    all_goals first | (cases h; done) | skip
    · cases h; exact .inl rfl
    · cases h; exact .inr rfl
  | succ n =>
    rcases h with h | (h | h) | ⟨m, h⟩ | ⟨t, h, _⟩ | ⟨l', h, h2⟩ | ⟨l', h, _⟩
    all_goals first | (cases h; done) | skip
    · cases h; exact .inl rfl
    · cases h; exact .inr rfl
theorem byte_kind (c : UInt8) (h0 : 0 ≤ (c.toNat : Int) - 1) : UInt8.ofNat (((c.toNat : Int) - 1).toNat + 1) = c := by
  apply UInt8.toNat_inj.1
  have := c.toNat_lt
  rw [UInt8.toNat_ofNat']
  omega

theorem value_put : ∀ (k j : Nat) (_ : k ≤ j) (l : List UInt8) (p : V × List UInt8), valueK k l = some p → ∀ m, VOk m p.1 → putV j p.1 ++ p.2 = l
  | 0, _, _, _, _, h, _, _ => by simp [valueK] at h
  | k + 1, _, _, [], _, h, _, _ => by simp [valueK] at h
  | k + 1, 0, hj, c :: r, p, h, m, hm => by omega
  | k + 1, j + 1, hj, c :: r, p, h, m, hm => by
    have hK := hm.kinds
    have h : kindK (valueK k) ((c.toNat : Int) - 1) r = some p := h
    obtain ⟨kd, hkd⟩ : ∃ kd, (c.toNat : Int) - 1 = kd := ⟨_, rfl⟩
    have hbk := byte_kind c
    rw [hkd] at h hbk
    have hgoal : p.1.kind = kd → tailV (putV j) p.1 ++ p.2 = r → putV (j + 1) p.1 ++ p.2 = c :: r := by
      intro e1 e2
      show UInt8.ofNat (p.1.kind.toNat + 1) :: (tailV (putV j) p.1 ++ p.2) = c :: r
      rw [e1, e2, hbk (by omega)]
    unfold kindK at h
    split at h
    · rename_i e
      split at h
      · cases h
      · rename_i hl
        rcases r with _ | ⟨d, r⟩
        · simp at hl
        · cases h
          refine hgoal e.symm ?_
          have := d.toNat_lt
          have e2 : wrap64 (numL [d] : Int) = (d.toNat : Int) := by simp only [numL, List.foldl]; unfold wrap64; omega
          show UInt8.ofNat (wrap64 (numL [d] : Int)).toNat :: r = d :: r
          rw [e2]
          simp
    · split at h
      · rename_i e
        split at h
        · cases h
        · rename_i hl
          obtain ⟨x1, x2, x3, x4, x5, x6, x7, x8, t, rfl⟩ := take8 r hl
          cases h
          refine hgoal e.symm ?_
          show eight (turnN (tw (wrap64 (numL [x1, x2, x3, x4, x5, x6, x7, x8] : Int)))) ++ t = _
          rw [turn_back _ (numL_eight_lt ..), eight_numL]
          rfl
      · split at h
        · rename_i e
          obtain ⟨q, hq, rfl⟩ := Option.map_eq_some_iff.1 h
          refine hgoal e.symm ?_
          show writtenL q.1 ++ q.2 = r
          exact ktext_put _ r (Nat.le_refl _) q hq
        · split at h
          · rename_i e
            obtain ⟨q, hq, rfl⟩ := Option.map_eq_some_iff.1 h
            refine hgoal e.symm ?_
            show (q.1.flatMap (putV j) ++ [0]) ++ q.2 = r
            rw [List.append_assoc]
            exact row_put (Q := fun x => ∃ m, VOk m x) (fun l p hp ⟨m', hm'⟩ => value_put k j (by omega) l p hp m' hm') _ r q hq fun x hx => by
              obtain ⟨m', _, h'⟩ := VOk.lists (l := q.1) hm x hx
              exact ⟨m', h'⟩
          · split at h
            · rename_i e
              obtain ⟨q, hq, rfl⟩ := Option.map_eq_some_iff.1 h
              refine hgoal e.symm ?_
              show (q.1.flatMap (fieldL (putV j)) ++ [0]) ++ q.2 = r
              rw [List.append_assoc]
              refine row_put (Q := fun x => ∃ m, VOk m x.2) (fun l p hp ⟨m', hm'⟩ => ?_) _ r q hq fun x hx => by
                obtain ⟨m', _, h'⟩ := VOk.objs (l := q.1) hm x hx
                exact ⟨m', h'⟩
              obtain ⟨nm, r0, e1, e2, e3⟩ := field_each l p hp
              have := value_put k j (by omega) r0 _ e3 m' hm'
              simp only at this
              show 1 :: (writtenL p.1.1.data.toList ++ putV j p.1.2) ++ p.2 = l
              rw [e1, e2]
              simp only [List.cons_append, List.append_assoc, this]
            · rename_i n1 n2 n3 n4 n5
              cases h
              refine hgoal rfl ?_
              have : kd = 0 := by simp only at hK; omega
              subst this
              rfl
/-- what was read, and may be, fits. -/
theorem value_fit : ∀ (m k : Nat) (l : List UInt8) (p : V × List UInt8), valueK k l = some p → VOk m p.1 → KFit m p.1
  | m, 0, _, _, h, _ => by simp [valueK] at h
  | m, k + 1, [], _, h, _ => by simp [valueK] at h
  | m, k + 1, c :: r, p, h, hm => by
    have hK := hm.kinds
    have h : kindK (valueK k) ((c.toNat : Int) - 1) r = some p := h
    obtain ⟨kd, hkd⟩ : ∃ kd, (c.toNat : Int) - 1 = kd := ⟨_, rfl⟩
    rw [hkd] at h
    have hz : ∀ (v : V), v.list = [] → v.fields = [] → (0 ≤ v.kind ∧ v.kind ≤ 5 ∧ I64 v.num ∧ (v.kind = 1 → v.num = 0 ∨ v.num = 1) ∧ v.text.size ≤ 1000000) → KFit m v := by
      intro v e1 e2 h
      cases m with
      | zero => exact h
      | succ m => exact ⟨h, by rw [e1]; intro x hx; (cases hx), by rw [e2]; intro x hx; (cases hx)⟩
    have hI0 : I64 0 := ⟨by decide, by decide⟩
    unfold kindK at h
    split at h
    · split at h
      · cases h
      · cases h
        refine hz _ rfl rfl ⟨by simp, by simp, ?_, ?_, Nat.zero_le _⟩
        · rcases VOk.bool (m := wrap64 (numL (r.take 1) : Int)) hm with e | e <;> simp only [e] <;> exact ⟨by decide, by decide⟩
        · intro _
          exact VOk.bool (m := wrap64 (numL (r.take 1) : Int)) hm
    · split at h
      · split at h
        · cases h
        · cases h
          exact hz _ rfl rfl ⟨by simp, by simp, tw_I64 _, fun h => absurd h (by simp), Nat.zero_le _⟩
      · split at h
        · obtain ⟨q, hq, rfl⟩ := Option.map_eq_some_iff.1 h
          refine hz _ rfl rfl ⟨by simp, by simp, hI0, fun h => absurd h (by simp), ?_⟩
          cases m with
          | zero =>
            rcases hm with h | (h | h) | ⟨m, h⟩ | ⟨t, h, hs, _⟩ | h | h
            all_goals first | (cases h; done) | skip
            · cases h; exact hs
          | succ n =>
            rcases hm with h | (h | h) | ⟨m, h⟩ | ⟨t, h, hs, _⟩ | ⟨l', h, h2⟩ | ⟨l', h, _⟩
            all_goals first | (cases h; done) | skip
            · cases h; exact hs
        · split at h
          · obtain ⟨q, hq, rfl⟩ := Option.map_eq_some_iff.1 h
            have he := row_each (valueK_less k) _ r q hq
            have hl := VOk.lists (l := q.1) hm
            cases m with
            | zero => exact ⟨by simp, by simp, hI0, fun h => absurd h (by simp), Nat.zero_le _⟩
            | succ m =>
              refine ⟨⟨by simp, by simp, hI0, fun h => absurd h (by simp), Nat.zero_le _⟩, fun x hx => ?_, fun x hx => (by cases hx)⟩
              obtain ⟨l', r', e, _⟩ := he x hx
              obtain ⟨m', e', h'⟩ := hl x hx
              obtain rfl : m = m' := by omega
              exact value_fit m k l' _ e h'
          · split at h
            · obtain ⟨q, hq, rfl⟩ := Option.map_eq_some_iff.1 h
              have he := row_each (fieldK_less (valueK_less k)) _ r q hq
              cases m with
              | zero => exact ⟨by simp, by simp, hI0, fun h => absurd h (by simp), Nat.zero_le _⟩
              | succ m =>
                refine ⟨⟨by simp, by simp, hI0, fun h => absurd h (by simp), Nat.zero_le _⟩, fun x hx => (by cases hx), fun x hx => ?_⟩
                obtain ⟨l', r', e, _⟩ := he x hx
                obtain ⟨nm, r0, _, _, e3⟩ := field_each l' _ e
                rcases hm with h | (h | h) | ⟨m', h⟩ | ⟨t, h, _⟩ | ⟨l', h, _⟩ | ⟨l', h, _, h2⟩
                all_goals first | (cases h; done) | skip
                cases h
                obtain ⟨g1, g2, g3⟩ := h2 x hx
                exact ⟨g1, value_fit m k r0 _ e3 g3⟩
            · cases h
              exact hz _ rfl rfl ⟨hK.1, hK.2, hI0, fun _ => .inl rfl, by show (0 : Nat) ≤ 1000000; decide⟩
/-- a value as it is read: nothing beside its kind. -/
def PK : Nat → V → Prop
  | 0, v => (∃ k : Int, v = ⟨k, 0, ⟨#[]⟩, [], []⟩) ∨ (∃ m : Int, v = boolV m) ∨ (∃ m, v = intV m) ∨ (∃ t, v = textV t ∧ t.size ≤ 1000000)
  | n + 1, v => (∃ k : Int, v = ⟨k, 0, ⟨#[]⟩, [], []⟩) ∨ (∃ m : Int, v = boolV m) ∨ (∃ m, v = intV m) ∨ (∃ t, v = textV t ∧ t.size ≤ 1000000) ∨ (∃ l, v = listV l ∧ ∀ x ∈ l, PK n x) ∨ (∃ f, v = objV f ∧ ∀ p ∈ f, p.1.size ≤ 1000000 ∧ PK n p.2)
theorem value_pk : ∀ (n : Nat) (l : List UInt8) (p : V × List UInt8), valueK n l = some p → l.length ≤ 1000000 → PK n p.1
  | 0, _, _, h, _ => by simp [valueK] at h
  | k + 1, [], _, h, _ => by simp [valueK] at h
  | k + 1, c :: r, p, h, hl => by
    have h : kindK (valueK k) ((c.toNat : Int) - 1) r = some p := h
    obtain ⟨kd, hkd⟩ : ∃ kd, (c.toNat : Int) - 1 = kd := ⟨_, rfl⟩
    rw [hkd] at h
    simp only [List.length_cons] at hl
    unfold kindK at h
    split at h
    · split at h
      · cases h
      · cases h
        exact .inr (.inl ⟨_, rfl⟩)
    · split at h
      · split at h
        · cases h
        · cases h
          exact .inr (.inr (.inl ⟨_, rfl⟩))
      · split at h
        · obtain ⟨q, hq, rfl⟩ := Option.map_eq_some_iff.1 h
          refine .inr (.inr (.inr (.inl ⟨_, rfl, ?_⟩)))
          have := ktext_size r q hq
          rw [ba_size]
          simp only
          omega
        · split at h
          · obtain ⟨q, hq, rfl⟩ := Option.map_eq_some_iff.1 h
            have he := row_each (valueK_less k) _ r q hq
            refine .inr (.inr (.inr (.inr (.inl ⟨_, rfl, fun x hx => ?_⟩))))
            obtain ⟨l', r', e, hl'⟩ := he x hx
            exact value_pk k l' _ e (by omega)
          · split at h
            · obtain ⟨q, hq, rfl⟩ := Option.map_eq_some_iff.1 h
              have he := row_each (fieldK_less (valueK_less k)) _ r q hq
              refine .inr (.inr (.inr (.inr (.inr ⟨_, rfl, fun x hx => ?_⟩))))
              obtain ⟨l', r', e, hl'⟩ := he x hx
              obtain ⟨nm, r0, e1, e2, e3⟩ := field_each l' _ e
              have h1 := congrArg List.length e1
              have h2 : nm.length ≤ (writtenL nm).length := by
                have h3 : ∀ q : List UInt8, q.length ≤ (q.flatMap wr1).length := by
                  intro q
                  induction q with
                  | nil => simp
                  | cons c q ih =>
                    have : 1 ≤ (wr1 c).length := by unfold wr1; split <;> simp
                    simp only [List.flatMap_cons, List.length_append, List.length_cons]
                    omega
                have h4 := h3 nm
                simp only [writtenL, List.length_append, List.length_cons, List.length_nil]
                omega
              simp only [List.length_cons, List.length_append] at h1
              refine ⟨?_, value_pk k r0 _ e3 (by omega)⟩
              have e2' : x.1 = ⟨nm.toArray⟩ := e2
              rw [e2', ba_size]
              simp only
              omega
            · cases h
              exact .inl ⟨_, rfl⟩
end Go.Proofs.YtehjdamdlokoaaaDoor
