/-
  A key is read as the value that it is of, and how long it is: plain. Conditions: as stated.
  What stands in an index, as plain data: a value's key by a way, the entries of records. No conditions beyond those stated.
  What stands in an index: a sorted row, a map gone through, a record that becomes another one, records one after another. Plain; no conditions beyond those stated.
  Records gone through by number, and through a map; the first entry that clashes. Plain; no conditions beyond those stated.
  The parts of a text between which dots stand, as plain data. No conditions.
-/
import Derived.Test.YtfpkkobclkdniaaGreatDoorU6
import Derived.Test.YtfpkkobclkdniaaGreatDoorU5
import Derived.Test.YtfpkkobclkdniaaGreatDoorU7
import Derived.Test.YtfpkkobclkdniaaGreatDoorU1
import Derived.Test.YtfpkkobclkdniaaGreatDoorU2
import Derived.Lib.SplitLaws
import Derived.Lib.ValidLaws
namespace Go.Proofs.YtfpkkobclkdniaaGreatDoor
open Go.RowKit

theorem Nice.partsK {n : Nat} {v : V} (h : Nice n v) : 0 ≤ v.kind ∧ v.kind ≤ 5 ∧ I64 v.num ∧ Wd v.kind v.num v.text := by
  cases n with
  | zero => exact ⟨h.1, h.2.1, h.2.2.1, h.2.2.2.1⟩
  | succ n => exact ⟨h.1, h.2.1, h.2.2.1, h.2.2.2.1⟩
theorem Nice.innerK {n : Nat} {v : V} (h : Nice n v) : v.list.length ≤ 3 ∧ v.fields.length ≤ 4 ∧ Rises v.fields ∧ (∀ x ∈ v.list, ∃ m, n = m + 1 ∧ Nice m x) ∧ (∀ p ∈ v.fields, (∃ i, p.1 = nameAt i) ∧ ∃ m, n = m + 1 ∧ Nice m p.2) := by
  cases n with
  | zero =>
    obtain ⟨_, _, _, _, h5, h6⟩ := h
    rw [h5, h6]
    exact ⟨by simp, by simp, trivial, fun x hx => (by cases hx), fun x hx => (by cases hx)⟩
  | succ n =>
    obtain ⟨_, _, _, _, h5, h6, h7, h8, h9⟩ := h
    exact ⟨h5, h6, h7, fun x hx => ⟨n, rfl, h8 x hx⟩, fun p hp => ⟨(h9 p hp).1, n, rfl, (h9 p hp).2⟩⟩
/-- a value with nothing beside its kind. -/
def canK : Nat → V → V
  | 0, _ => nulV
  | n + 1, v =>
    if v.kind = 1 then boolV v.num
    else if v.kind = 2 then intV v.num
    else if v.kind = 3 then textV v.text
    else if v.kind = 4 then listV (v.list.map (canK n))
    else if v.kind = 5 then objV (v.fields.map fun p => (p.1, canK n p.2))
    else nulV
theorem ktext_back : ∀ (l r : List UInt8), ktextP (writtenL l ++ r) = some (l, r)
  | [], r => ktextP_shut r
  | c :: l, r => by
    have ih := ktext_back l r
    by_cases h : c = 0
    · subst h
      have e : writtenL (0 :: l) ++ r = 0 :: 255 :: (writtenL l ++ r) := by simp [writtenL, wr1]
      rw [e, ktextP_stays, ih]; rfl
    · have e : writtenL (c :: l) ++ r = c :: (writtenL l ++ r) := by simp [writtenL, wr1, h]
      rw [e, ktextP_more c _ h, ih]; rfl
theorem numL_eight (m : Nat) (h : m < 18446744073709551616) : numL (eight m) = m := by
  simp only [numL, eight, List.foldl, UInt8.toNat_ofNat']
  omega
theorem int_back (n : Int) (h : I64 n) : tw (wrap64 (numL (intL n) : Int)) = n := by
  obtain ⟨h1, h2⟩ := h
  unfold intL
  rw [numL_eight _ (by unfold turnN; omega)]
  unfold turnN tw wrap64
  split <;> omega
theorem row_back {α β : Type} {f : List UInt8 → Option (β × List UInt8)} {g : α → List UInt8} {h : α → β} (r : List UInt8) : ∀ (xs : List α) (_ : ∀ x ∈ xs, (∃ c t, g x = c :: t ∧ c ≠ 0) ∧ ∀ s, f (g x ++ s) = some (h x, s)) (m : Nat), xs.length < m → rowK f m (xs.flatMap g ++ 0 :: r) = some (xs.map h, r)
  | _, _, 0, hm => by omega
  | [], _, m + 1, _ => by simp [rowK]
  | x :: xs, hx, m + 1, hm => by
    have ih := row_back r xs (fun y hy => hx y (List.mem_cons_of_mem _ hy)) m (by simp only [List.length_cons] at hm; omega)
    obtain ⟨⟨c, t, e, hc⟩, hf⟩ := hx x (by simp)
    have e2 : (x :: xs).flatMap g ++ 0 :: r = g x ++ (xs.flatMap g ++ 0 :: r) := by simp
    rw [e2, rowK, if_neg (by rw [e]; simpa using hc), hf]
    simp only [ih]
    rfl
theorem flat_len {α : Type} {g : α → List UInt8} : ∀ (xs : List α), (∀ x ∈ xs, g x ≠ []) → xs.length ≤ (xs.flatMap g).length
  | [], _ => by simp
  | x :: xs, h => by
    have ih := flat_len xs fun y hy => h y (List.mem_cons_of_mem _ hy)
    have h1 := List.length_pos_iff.2 (h x (by simp))
    simp only [List.flatMap_cons, List.length_append, List.length_cons]
    omega
theorem putV_hd (n : Nat) (v : V) (h0 : 0 ≤ v.kind) (h5 : v.kind ≤ 5) : ∃ c t, putV (n + 1) v = c :: t ∧ c ≠ 0 ∧ (c.toNat : Int) - 1 = v.kind ∧ t = tailV (putV n) v := by
  have e : (UInt8.ofNat (v.kind.toNat + 1)).toNat = v.kind.toNat + 1 := by rw [UInt8.toNat_ofNat']; omega
  refine ⟨_, _, rfl, fun h => ?_, by rw [e]; omega, rfl⟩
  have := congrArg UInt8.toNat h
  rw [e] at this
  simp at this
theorem mk_data (s : ByteArray) : (⟨s.data.toList.toArray⟩ : ByteArray) = s := by cases s; simp

theorem value_back : ∀ (n : Nat) (v : V), Nice n v → ∀ k, n < k → ∀ r, valueK k (putV (n + 1) v ++ r) = some (canK (n + 1) v, r) := by
  intro n
  induction n using Nat.strongRecOn with
  | _ n ih =>
    intro v hv k hk r
    obtain ⟨k, rfl⟩ : ∃ k', k = k' + 1 := ⟨k - 1, by omega⟩
    obtain ⟨k0, k1, hI, ⟨_, hb⟩⟩ := hv.partsK
    obtain ⟨_, _, _, hli, hfi⟩ := hv.innerK
    obtain ⟨c, t, e, hc, hck, rfl⟩ := putV_hd n v k0 k1
    have e2 : putV (n + 1) v ++ r = c :: (tailV (putV n) v ++ r) := by rw [e]; rfl
    rw [e2]
    show kindK (valueK k) ((c.toNat : Int) - 1) (tailV (putV n) v ++ r) = _
    rw [hck]
    obtain e | e | e | e | e | e : v.kind = 0 ∨ v.kind = 1 ∨ v.kind = 2 ∨ v.kind = 3 ∨ v.kind = 4 ∨ v.kind = 5 := by omega
    · simp [kindK, canK, tailV, e, nulV]
    · rcases hb e with h | h <;> simp [kindK, canK, tailV, e, h, boolV, numL, wrap64]
    · have hl : (intL v.num).length = 8 := rfl
      have ht : (intL v.num ++ r).take 8 = intL v.num := by rw [← hl]; simp
      have hd : (intL v.num ++ r).drop 8 = r := by rw [← hl]; simp
      have hlen : ¬ (intL v.num ++ r).length < 8 := by rw [List.length_append, hl]; omega
      simp only [kindK, canK, tailV, e]
      simp only [show ¬ (2 : Int) = 1 by decide, if_false, if_true, if_neg hlen, ht, hd, int_back v.num hI]
      rfl
    · simp [kindK, canK, tailV, e, textV, ktext_back]
    · have hx : ∀ x ∈ v.list, (∃ c t, putV n x = c :: t ∧ c ≠ 0) ∧ ∀ s, valueK k (putV n x ++ s) = some (canK n x, s) := fun x hx => by
        obtain ⟨m, rfl, hm⟩ := hli x hx
        obtain ⟨p0, p1, _, _⟩ := hm.partsK
        obtain ⟨c, t, e1, e2, _⟩ := putV_hd m x p0 p1
        exact ⟨⟨c, t, e1, e2⟩, ih m (by omega) x hm k (by omega)⟩
      have hfl := flat_len v.list (g := putV n) fun x hm h => by
        obtain ⟨⟨c, t, e1, _⟩, _⟩ := hx x hm
        rw [e1] at h; cases h
      have hr := row_back (f := valueK k) (g := putV n) (h := canK n) r v.list hx ((v.list.flatMap (putV n) ++ 0 :: r).length + 1) (by rw [List.length_append]; omega)
      simp only [kindK, canK, tailV, e]
      simp only [show ¬ (4 : Int) = 1 by decide, show ¬ (4 : Int) = 2 by decide, show ¬ (4 : Int) = 3 by decide, if_false, if_true, List.append_assoc, List.singleton_append, hr]
      rfl
    · have hx : ∀ p ∈ v.fields, (∃ c t, fieldL (putV n) p = c :: t ∧ c ≠ 0) ∧ ∀ s, fieldK (valueK k) (fieldL (putV n) p ++ s) = some ((p.1, canK n p.2), s) := fun p hp => by
        obtain ⟨_, m, rfl, hm⟩ := hfi p hp
        refine ⟨⟨1, _, rfl, by decide⟩, fun s => ?_⟩
        have e3 : fieldL (putV (m + 1)) p ++ s = 1 :: (writtenL p.1.data.toList ++ (putV (m + 1) p.2 ++ s)) := by simp [fieldL]
        rw [e3]
        simp only [fieldK, List.head?_cons, if_true, List.tail_cons, ktext_back, ih m (by omega) p.2 hm k (by omega) s, Option.map_some, mk_data]
      have hfl := flat_len v.fields (g := fieldL (putV n)) fun x hm h => by cases h
      have hr := row_back (f := fieldK (valueK k)) (g := fieldL (putV n)) (h := fun p => (p.1, canK n p.2)) r v.fields hx ((v.fields.flatMap (fieldL (putV n)) ++ 0 :: r).length + 1) (by rw [List.length_append]; omega)
      simp only [kindK, canK, tailV, e]
      simp only [show ¬ (5 : Int) = 1 by decide, show ¬ (5 : Int) = 2 by decide, show ¬ (5 : Int) = 3 by decide, show ¬ (5 : Int) = 4 by decide, if_false, if_true, List.append_assoc, List.singleton_append, hr]
      rfl

theorem cmpL_mapK {α : Type} {f : α → α → Int} {g : α → α} : ∀ (xs : List α), (∀ x ∈ xs, f x (g x) = 0) → cmpL f xs (xs.map g) = 0
  | [], _ => rfl
  | x :: xs, h => by
    show (if f x (g x) = 0 then cmpL f xs (xs.map g) else f x (g x)) = 0
    rw [if_pos (h x (by simp))]
    exact cmpL_mapK xs fun y hy => h y (List.mem_cons_of_mem _ hy)
theorem canK_kind {n : Nat} {v : V} (h : Nice n v) : (canK (n + 1) v).kind = v.kind := by
  obtain ⟨k0, k1, _, _⟩ := h.partsK
  obtain e | e | e | e | e | e : v.kind = 0 ∨ v.kind = 1 ∨ v.kind = 2 ∨ v.kind = 3 ∨ v.kind = 4 ∨ v.kind = 5 := by omega
  all_goals simp [canK, e, nulV, boolV, intV, textV, listV, objV]
theorem canK_same : ∀ (k n : Nat) (v : V), Nice n v → cmpV k v (canK (n + 1) v) = 0
  | 0, _, _, _ => rfl
  | k + 1, n, v, h => by
    obtain ⟨_, _, _, hli, hfi⟩ := h.innerK
    have hk := canK_kind h
    show (if v.kind = (canK (n + 1) v).kind then _ else _) = (0 : Int)
    rw [if_pos hk.symm]
    obtain ⟨k0, k1, _, _⟩ := h.partsK
    obtain e | e | e | e | e | e : v.kind = 0 ∨ v.kind = 1 ∨ v.kind = 2 ∨ v.kind = 3 ∨ v.kind = 4 ∨ v.kind = 5 := by omega
    · simp [e]
    · have : (canK (n + 1) v).num = v.num := by simp [canK, e, boolV]
      simp [e, this, cmpI]
    · have : (canK (n + 1) v).num = v.num := by simp [canK, e, intV]
      simp [e, this, cmpI]
    · have : (canK (n + 1) v).text = v.text := by simp [canK, e, textV]
      simp [e, this, good_cmpT.refl]
    · have : (canK (n + 1) v).list = v.list.map (canK n) := by simp [canK, e, listV]
      simp only [e, this]
      simp only [show ¬ ((4 : Int) = 1 ∨ (4 : Int) = 2) by decide, show ¬ (4 : Int) = 3 by decide, if_false, if_true]
      refine cmpL_mapK _ fun x hx => ?_
      obtain ⟨m, rfl, hm⟩ := hli x hx
      exact canK_same k m x hm
    · have : (canK (n + 1) v).fields = v.fields.map fun p => (p.1, canK n p.2) := by simp [canK, e, objV]
      simp only [e, this]
      simp only [show ¬ ((5 : Int) = 1 ∨ (5 : Int) = 2) by decide, show ¬ (5 : Int) = 3 by decide, show ¬ (5 : Int) = 4 by decide, if_false, if_true]
      refine cmpL_mapK _ fun x hx => ?_
      obtain ⟨_, m, rfl, hm⟩ := hfi x hx
      show (if cmpT x.1 x.1 = 0 then cmpV k x.2 (canK (m + 1) x.2) else _) = 0
      rw [if_pos (good_cmpT.refl _)]
      exact canK_same k m x.2 hm
theorem word_validK (i : Nat) : Lib.validD (wordAt i).data.toList = true := by
  unfold wordAt
  split <;> kernel_rfl
theorem name_validK (i : Nat) : Lib.validD (nameAt i).data.toList = true := by
  unfold nameAt
  split <;> kernel_rfl
theorem rises_mapK (g : V → V) : ∀ (fs : List (ByteArray × V)), Rises fs → Rises (fs.map fun p => (p.1, g p.2))
  | [], _ => trivial
  | [_], _ => trivial
  | _ :: q :: r, h => ⟨h.1, rises_mapK g (q :: r) h.2⟩
theorem canK_ok : ∀ (n : Nat) (v : V), Nice n v → ∀ m, n ≤ m → VOk m (canK (n + 1) v) := by
  intro n
  induction n using Nat.strongRecOn with
  | _ n ih =>
    intro v hv m hm
    obtain ⟨k0, k1, hI, ⟨⟨w, hw⟩, hb⟩⟩ := hv.partsK
    obtain ⟨_, _, hri, hli, hfi⟩ := hv.innerK
    obtain e | e | e | e | e | e : v.kind = 0 ∨ v.kind = 1 ∨ v.kind = 2 ∨ v.kind = 3 ∨ v.kind = 4 ∨ v.kind = 5 := by omega
    · rw [show canK (n + 1) v = nulV by simp [canK, e]]
      cases m <;> exact .inl rfl
    · rw [show canK (n + 1) v = boolV v.num by simp [canK, e]]
      rcases hb e with h | h
      · rw [h]; cases m <;> exact .inr (.inl (.inl rfl))
      · rw [h]; cases m <;> exact .inr (.inl (.inr rfl))
    · rw [show canK (n + 1) v = intV v.num by simp [canK, e]]
      cases m <;> exact .inr (.inr (.inl ⟨_, rfl⟩))
    · rw [show canK (n + 1) v = textV v.text by simp [canK, e]]
      have hs : v.text.size ≤ 1000000 := by rw [hw]; exact Nat.le_trans (wordAt_size w) (by decide)
      have hvd : Lib.validD v.text.data.toList = true := by rw [hw]; exact word_validK w
      cases m <;> exact .inr (.inr (.inr (.inl ⟨_, rfl, hs, hvd⟩)))
    · rw [show canK (n + 1) v = listV (v.list.map (canK n)) by simp [canK, e]]
      cases m with
      | zero =>
        have hl : v.list = [] := by
          cases hx : v.list with
          | nil => rfl
          | cons x xs => obtain ⟨m', e', _⟩ := hli x (by rw [hx]; simp); omega
        rw [hl]
        exact .inr (.inr (.inr (.inr (.inl rfl))))
      | succ m =>
        refine .inr (.inr (.inr (.inr (.inl ⟨_, rfl, fun y hy => ?_⟩))))
        obtain ⟨x, hx, rfl⟩ := List.mem_map.1 hy
        obtain ⟨k, rfl, hk⟩ := hli x hx
        exact ih k (by omega) x hk m (by omega)
    · rw [show canK (n + 1) v = objV (v.fields.map fun p => (p.1, canK n p.2)) by simp [canK, e]]
      cases m with
      | zero =>
        have hl : v.fields = [] := by
          cases hx : v.fields with
          | nil => rfl
          | cons x xs => obtain ⟨_, m', e', _⟩ := hfi x (by rw [hx]; simp); omega
        rw [hl]
        exact .inr (.inr (.inr (.inr (.inr rfl))))
      | succ m =>
        refine .inr (.inr (.inr (.inr (.inr ⟨_, rfl, rises_mapK _ _ hri, fun y hy => ?_⟩))))
        obtain ⟨x, hx, rfl⟩ := List.mem_map.1 hy
        obtain ⟨⟨i, hi⟩, k, rfl, hk⟩ := hfi x hx
        refine ⟨?_, ?_, ih k (by omega) x.2 hk m (by omega)⟩
        · show x.1.size ≤ _
          rw [hi]; exact Nat.le_trans (nameAt_size i) (by decide)
        · show Lib.validD x.1.data.toList = true
          rw [hi]; exact name_validK i
theorem nice_kfit : ∀ (n : Nat) (v : V), Nice n v → KFit n v
  | 0, v, h => by
    obtain ⟨k0, k1, hI, hw⟩ := h.partsK
    exact ⟨k0, k1, hI, hw.2, Nat.le_trans hw.size (by decide)⟩
  | n + 1, v, h => by
    obtain ⟨k0, k1, hI, hw⟩ := h.partsK
    obtain ⟨_, _, _, hli, hfi⟩ := h.innerK
    refine ⟨⟨k0, k1, hI, hw.2, Nat.le_trans hw.size (by decide)⟩, fun x hx => ?_, fun p hp => ?_⟩
    · obtain ⟨m, e, hm⟩ := hli x hx
      obtain rfl : n = m := by omega
      exact nice_kfit n x hm
    · obtain ⟨⟨i, hi⟩, m, e, hm⟩ := hfi p hp
      obtain rfl : n = m := by omega
      exact ⟨by rw [hi]; exact Nat.le_trans (nameAt_size i) (by decide), nice_kfit n p.2 hm⟩
/-- how long a key is at most. -/
def maxK : Nat → Nat
  | 0 => 0
  | n + 1 => 40 + 4 * (8 + maxK n)
theorem written_len (l : List UInt8) : (writtenL l).length ≤ 2 * l.length + 2 := by
  have : ∀ l : List UInt8, (l.flatMap wr1).length ≤ 2 * l.length := by
    intro l
    induction l with
    | nil => simp
    | cons c l ih =>
      have h : (wr1 c).length ≤ 2 := by unfold wr1; split <;> simp
      simp only [List.flatMap_cons, List.length_append, List.length_cons]
      omega
  have h := this l
  simp only [writtenL, List.length_append, List.length_cons, List.length_nil]
  omega
theorem flat_max {α : Type} {g : α → List UInt8} (b : Nat) : ∀ (xs : List α), (∀ x ∈ xs, (g x).length ≤ b) → (xs.flatMap g).length ≤ xs.length * b
  | [], _ => by simp
  | x :: xs, h => by
    have ih := flat_max b xs fun y hy => h y (List.mem_cons_of_mem _ hy)
    have h1 := h x (by simp)
    simp only [List.flatMap_cons, List.length_append, List.length_cons, Nat.succ_mul]
    omega
theorem put_len : ∀ (n : Nat) (v : V), Nice n v → (putV (n + 1) v).length ≤ maxK (n + 1) := by
  intro n
  induction n using Nat.strongRecOn with
  | _ n ih =>
    intro v hv
    obtain ⟨k0, k1, hI, hw⟩ := hv.partsK
    obtain ⟨hn3, hn4, _, hli, hfi⟩ := hv.innerK
    have hsz : v.text.data.toList.length ≤ 16 := by have := hw.size; rw [ba_size] at this; exact this
    show (tailV (putV n) v).length + 1 ≤ 40 + 4 * (8 + maxK n)
    obtain e | e | e | e | e | e : v.kind = 0 ∨ v.kind = 1 ∨ v.kind = 2 ∨ v.kind = 3 ∨ v.kind = 4 ∨ v.kind = 5 := by omega
    · simp only [tailV, e]; simp; omega
    · simp only [tailV, e]; simp; omega
    · simp only [tailV, e]; simp [intL, eight]; omega
    · have := written_len v.text.data.toList
      simp only [tailV, e]
      simp only [show ¬ (3 : Int) = 1 by decide, show ¬ (3 : Int) = 2 by decide, if_false, if_true]
      omega
    · have h := flat_max (g := putV n) (maxK n) v.list fun x hx => by
        obtain ⟨m, rfl, hm⟩ := hli x hx
        exact ih m (by omega) x hm
      have h2 : v.list.length * maxK n ≤ 3 * maxK n := Nat.mul_le_mul_right _ hn3
      simp only [tailV, e]
      simp only [show ¬ (4 : Int) = 1 by decide, show ¬ (4 : Int) = 2 by decide, show ¬ (4 : Int) = 3 by decide, if_false, if_true, List.length_append, List.length_singleton]
      omega
    · have h := flat_max (g := fieldL (putV n)) (8 + maxK n) v.fields fun x hx => by
        obtain ⟨⟨i, hi⟩, m, rfl, hm⟩ := hfi x hx
        have h1 := ih m (by omega) x.2 hm
        have h2 := written_len x.1.data.toList
        have h3 := nameAt_size i
        rw [← hi, ba_size] at h3
        simp only [fieldL, List.length_cons, List.length_append]
        omega
      have h2 : v.fields.length * (8 + maxK n) ≤ 4 * (8 + maxK n) := Nat.mul_le_mul_right _ hn4
      simp only [tailV, e]
      simp only [show ¬ (5 : Int) = 1 by decide, show ¬ (5 : Int) = 2 by decide, show ¬ (5 : Int) = 3 by decide, show ¬ (5 : Int) = 4 by decide, if_false, if_true, List.length_append, List.length_singleton]
      omega

theorem put_size {v : V} (h : Nice 3 v) {P : ByteArray} (hP : (⟨(putV (3 + 1) v).toArray⟩ : ByteArray) = P) : P.size ≤ 6120 := by
  rw [← hP]
  have := put_len 3 v h
  have e : (⟨(putV (3 + 1) v).toArray⟩ : ByteArray).size = (putV (3 + 1) v).length := (ba_size _).trans (by simp)
  rw [e]
  exact this
end Go.Proofs.YtfpkkobclkdniaaGreatDoor

namespace Go.Proofs.YtfpkkobclkdniaaGreatDoor
open Go.RowKit

/-- a value's key. -/
def keyT (v : V) : ByteArray := ⟨(putV 4 v).toArray⟩
def keyP (ps : List ByteArray) (v : V) : Option ByteArray := (findP v ps).map keyT

theorem Nice.moreI : ∀ (n : Nat) {v : V}, Nice n v → Nice (n + 1) v
  | 0, _, ⟨h1, h2, h3, h4, h5, h6⟩ => Nice.plain 1 h1 h2 h3 h4 h5 h6
  | n + 1, _, ⟨h1, h2, h3, h4, h5, h6, h7, h8, h9⟩ => ⟨h1, h2, h3, h4, h5, h6, h7, fun x hx => Nice.moreI n (h8 x hx), fun p hp => ⟨(h9 p hp).1, Nice.moreI n (h9 p hp).2⟩⟩
theorem get_mem_f {p : ByteArray} {x : V} : ∀ {fs : List (ByteArray × V)}, getF p fs = some x → ∃ q ∈ fs, q.2 = x
  | [], h => by cases h
  | f :: fs, h => by
    unfold getF at h
    split at h
    · cases h; exact ⟨f, by simp, rfl⟩
    · obtain ⟨q, hq, e⟩ := get_mem_f h
      exact ⟨q, by simp [hq], e⟩
theorem nice_at {n : Nat} {v x : V} {p : ByteArray} (h : Nice n v) (ha : atP v p = some x) : Nice n x := by
  obtain ⟨-, -, -, hl, hf⟩ := h.innerK
  unfold atP at ha
  split at ha
  · obtain ⟨q, hq, rfl⟩ := get_mem_f ha
    obtain ⟨-, m, rfl, hm⟩ := hf q hq
    exact hm.moreI
  · split at ha
    · obtain ⟨i, -, hi⟩ := Option.bind_eq_some_iff.1 ha
      obtain ⟨m, rfl, hm⟩ := hl x (List.mem_of_getElem? hi)
      exact hm.moreI
    · cases ha
theorem nice_find {n : Nat} : ∀ (ps : List ByteArray) {v x : V}, Nice n v → findP v ps = some x → Nice n x
  | [], _, _, h, hf => by cases hf; exact h
  | p :: ps, v, x, h, hf => by
    unfold findP at hf
    obtain ⟨y, hy, hx⟩ := Option.bind_eq_some_iff.1 hf
    exact nice_find ps (nice_at h hy) hx
theorem flatMap_congrI {α : Type} {f g : α → List UInt8} : ∀ {l : List α}, (∀ x ∈ l, f x = g x) → l.flatMap f = l.flatMap g
  | [], _ => rfl
  | x :: l, h => by rw [List.flatMap_cons, List.flatMap_cons, h x (by simp), flatMap_congrI fun y hy => h y (by simp [hy])]
theorem put_more : ∀ (n : Nat) {v : V}, Nice n v → putV (n + 2) v = putV (n + 1) v
  | 0, v, ⟨_, _, _, _, h5, h6⟩ => by
    unfold putV tailV
    rw [h5, h6]
    rfl
  | n + 1, v, ⟨_, _, _, _, _, _, _, h8, h9⟩ => by
    have e1 : v.list.flatMap (putV (n + 2)) = v.list.flatMap (putV (n + 1)) := flatMap_congrI fun x hx => put_more n (h8 x hx)
    have e2 : v.fields.flatMap (fieldL (putV (n + 2))) = v.fields.flatMap (fieldL (putV (n + 1))) := flatMap_congrI fun p hp => by unfold fieldL; rw [put_more n (h9 p hp).2]
    show UInt8.ofNat (v.kind.toNat + 1) :: tailV (putV (n + 2)) v = UInt8.ofNat (v.kind.toNat + 1) :: tailV (putV (n + 1)) v
    unfold tailV
    rw [e1, e2]
theorem key_four {v : V} (h : Nice 3 v) : (⟨(putV (4 + 1) v).toArray⟩ : ByteArray) = keyT v := by unfold keyT; rw [put_more 3 h]
theorem key_size {v : V} (h : Nice 3 v) : (keyT v).size ≤ 6120 := put_size h rfl
theorem keyP_size {ps : List ByteArray} {v : V} {k : ByteArray} (h : Nice 3 v) (hk : keyP ps v = some k) : k.size ≤ 6120 := by
  unfold keyP at hk
  obtain ⟨x, hx, rfl⟩ := Option.map_eq_some_iff.1 hk
  exact key_size (nice_find ps h hx)
theorem lies_nice {W : World} : ∀ (n : Nat) {m : Nat} {v : V} {l f : Value}, Lies m W v l f → Nice n v → Lies (n + 1) W v l f
  | n, 0, v, l, f, h, _ => Rep.le h (Nat.zero_le _)
  | 0, m + 1, v, l, f, ⟨⟨es, e1, e2, e3⟩, fs, f1, f2, f3⟩, ⟨_, _, _, _, h5, h6⟩ => by
    rw [h5] at e1
    rw [h6] at f1
    obtain rfl := List.map_eq_nil_iff.1 e1
    obtain rfl := List.map_eq_nil_iff.1 f1
    exact ⟨⟨[], by rw [h5]; rfl, e2, fun e he => by cases he⟩, [], by rw [h6]; rfl, f2, fun e he => by cases he⟩
  | n + 1, m + 1, v, l, f, ⟨⟨es, e1, e2, e3⟩, fs, f1, f2, f3⟩, ⟨_, _, _, _, _, _, _, h8, h9⟩ =>
    ⟨⟨es, e1, e2, fun e he => lies_nice n (e3 e he) (h8 _ (by rw [← e1]; exact List.mem_map.2 ⟨e, he, rfl⟩))⟩, fs, f1, f2, fun e he => lies_nice n (f3 e he) (h9 e.pair (by rw [← f1]; exact List.mem_map.2 ⟨e, he, rfl⟩)).2⟩

/-- a record's entry. -/
def entP (ps : List ByteArray) (r : Rec) : Option En := (keyP ps r.2).map fun k => (k, r.1)
/-- what stands in an index of records. -/
def ofP (ps : List ByteArray) (rs : List Rec) : List En := (rs.filterMap (entP ps)).foldl (fun l e => insE e l) []

theorem len_withTI (e : En) : ∀ l : List En, (withL e true l).length ≤ l.length
  | [] => by simp [withL]
  | x :: l => by
    have h2 := len_withTI e l
    rw [withL]
    split
    · rw [List.length_cons]; omega
    · rw [if_neg (fun h => by cases h.1)]
      simp only [List.length_cons]; omega
theorem len_withI (e : En) : ∀ (p : Bool) (l : List En), (withL e p l).length ≤ l.length + 1
  | true, l => Nat.le_succ_of_le (len_withTI e l)
  | false, [] => by simp [withL]
  | false, x :: l => by
    have h1 := len_withI e false l
    have h2 := len_withTI e l
    rw [withL]
    split
    · rw [List.length_cons]; omega
    · split
      · simp only [List.length_cons]; omega
      · simp only [List.length_cons]; omega
theorem get_of_memR : ∀ {rs : List Rec} {lo : Int} {r : Rec}, RisesR lo rs → r ∈ rs → getR r.1 rs = some r.2
  | [], _, _, _, h => by cases h
  | x :: rs, lo, r, hr, h => by
    unfold getR
    rcases List.mem_cons.1 h with rfl | h
    · rw [if_pos rfl]
    · have := hr.2.above r h
      rw [if_neg (by omega)]
      exact get_of_memR hr.2 h
theorem fold_sort : ∀ (es : List En) {l : List En}, SortE l → SortE (es.foldl (fun l e => insE e l) l)
  | [], _, h => h
  | _ :: es, _, h => fold_sort es (sort_ins h)
theorem fold_mem {y : En} : ∀ (es : List En) {l : List En}, y ∈ es.foldl (fun l e => insE e l) l ↔ y ∈ es ∨ y ∈ l
  | [], l => by simp
  | e :: es, l => by
    rw [List.foldl_cons, fold_mem es, mem_insE, List.mem_cons]
    constructor
    · rintro (h | h | h)
      · exact .inl (.inr h)
      · exact .inl (.inl h)
      · exact .inr h
    · rintro ((h | h) | h)
      · exact .inr (.inl h)
      · exact .inl h
      · exact .inr (.inr h)
theorem ofP_sort (ps : List ByteArray) (rs : List Rec) : SortE (ofP ps rs) := fold_sort _ List.Pairwise.nil
theorem ofP_mem {ps : List ByteArray} {rs : List Rec} {y : En} : y ∈ ofP ps rs ↔ ∃ r ∈ rs, entP ps r = some y := by
  unfold ofP
  rw [fold_mem]
  simp [List.mem_filterMap]
theorem ofP_get {ps : List ByteArray} {rs : List Rec} {lo : Int} (hr : RisesR lo rs) {y : En} : y ∈ ofP ps rs ↔ ∃ v, getR y.2 rs = some v ∧ keyP ps v = some y.1 := by
  rw [ofP_mem]
  constructor
  · rintro ⟨r, hr1, h⟩
    obtain ⟨k, hk, rfl⟩ := Option.map_eq_some_iff.1 h
    exact ⟨r.2, get_of_memR hr hr1, hk⟩
  · rintro ⟨v, hv, h⟩
    exact ⟨(y.2, v), get_memR hv, by unfold entP; rw [h]; rfl⟩
theorem ofP_len (ps : List ByteArray) (rs : List Rec) : (ofP ps rs).length ≤ rs.length := by
  have h : ∀ (es l : List En), (es.foldl (fun l e => insE e l) l).length ≤ es.length + l.length := by
    intro es
    induction es with
    | nil => intro l; simp
    | cons e es ih =>
      intro l
      have h1 := ih (insE e l)
      have h2 : (insE e l).length ≤ l.length + 1 := len_withI e false l
      rw [List.foldl_cons, List.length_cons]
      omega
  have h1 := h (rs.filterMap (entP ps)) []
  have h2 := List.length_filterMap_le (entP ps) rs
  unfold ofP
  simp only [List.length_nil] at h1
  omega
end Go.Proofs.YtfpkkobclkdniaaGreatDoor

namespace Go.Proofs.YtfpkkobclkdniaaGreatDoor
open Go.RowKit

theorem rises_pw : ∀ {rs : List Rec} {lo : Int}, RisesR lo rs → rs.Pairwise fun a b => a.1 < b.1
  | [], _, _ => List.Pairwise.nil
  | _ :: _, _, h => List.Pairwise.cons (fun y hy => h.2.above y hy) (rises_pw h.2)
theorem ent_id {ps : List ByteArray} {r : Rec} {y : En} (h : entP ps r = some y) : y.2 = r.1 ∧ keyP ps r.2 = some y.1 := by
  unfold entP at h
  obtain ⟨k, hk, rfl⟩ := Option.map_eq_some_iff.1 h
  exact ⟨rfl, hk⟩
theorem ents_pw {ps : List ByteArray} {rs : List Rec} {lo : Int} (h : RisesR lo rs) : (rs.filterMap (entP ps)).Pairwise fun a b => a.2 < b.2 := by
  rw [List.pairwise_filterMap]
  refine (rises_pw h).imp fun {a b} hab y hy z hz => ?_
  rw [(ent_id hy).1, (ent_id hz).1]
  exact hab
theorem sorted_is {ps : List ByteArray} {rs : List Rec} {lo : Int} {l' : List En} (hr : RisesR lo rs) (hp : l'.Perm (rs.filterMap (entP ps))) (hs : l'.Pairwise fun a b => ¬ cmpE b a < 0) : l' = ofP ps rs := by
  have hn : l'.Nodup := hp.nodup_iff.2 ((ents_pw hr).imp fun h e => by subst e; omega)
  refine sort_ext ?_ (ofP_sort ps rs) fun y => ?_
  · refine (hs.and hn).imp fun {a b} h => ?_
    rcases ltE_total a b with k | k | k
    · exact k
    · exact absurd k h.2
    · exact absurd k h.1
  · rw [hp.mem_iff, ofP_mem, List.mem_filterMap]
theorem mapped_is {ps : List ByteArray} {rs : List Rec} {lo : Int} {l : List En} (hr : RisesR lo rs) (hs : SortE l) (h : ∀ y : En, y ∈ l ↔ ∃ v, getR y.2 rs = some v ∧ keyP ps v = some y.1) : l = ofP ps rs :=
  sort_ext hs (ofP_sort ps rs) fun y => (h y).trans (ofP_get hr).symm
theorem ofP_id {ps : List ByteArray} {rs : List Rec} {lo : Int} (hr : RisesR lo rs) {y z : En} (hy : y ∈ ofP ps rs) (hz : z ∈ ofP ps rs) (h : y.2 = z.2) : y = z := by
  obtain ⟨v, hv, hk⟩ := (ofP_get hr).1 hy
  obtain ⟨u, hu, hq⟩ := (ofP_get hr).1 hz
  rw [h, hu] at hv
  cases hv
  rw [hq] at hk
  exact Prod.ext (Option.some.inj hk).symm h
theorem ofP_key {ps : List ByteArray} {rs : List Rec} {lo : Int} (hr : RisesR lo rs) {i : Int} {v : V} (hv : getR i rs = some v) : (keyP ps v).isSome = true ↔ ∃ y ∈ ofP ps rs, y.2 = i := by
  constructor
  · intro h
    obtain ⟨k, hk⟩ := Option.isSome_iff_exists.1 h
    exact ⟨(k, i), (ofP_get hr).2 ⟨v, hv, hk⟩, rfl⟩
  · rintro ⟨y, hy, rfl⟩
    obtain ⟨u, hu, hq⟩ := (ofP_get hr).1 hy
    rw [hv] at hu
    cases hu
    rw [hq]
    rfl
/-- a record's own entry is taken away, or put there. -/
def offE (o : Option ByteArray) (i : Int) (l : List En) : List En := match o with | some k => delE (k, i) l | none => l
def onE (o : Option ByteArray) (i : Int) (l : List En) : List En := match o with | some k => insE (k, i) l | none => l
theorem mem_off {o : Option ByteArray} {i : Int} {l : List En} {y : En} : y ∈ offE o i l ↔ y ∈ l ∧ ¬ (o = some y.1 ∧ y.2 = i) := by
  cases o with
  | none => simp [offE]
  | some k =>
    rw [offE, mem_delE]
    constructor
    · rintro ⟨h1, h2⟩
      exact ⟨h1, fun ⟨e1, e2⟩ => h2 (by cases e1; rw [← e2])⟩
    · rintro ⟨h1, h2⟩
      exact ⟨h1, fun e => h2 (by rw [e]; exact ⟨rfl, rfl⟩)⟩
theorem mem_on {o : Option ByteArray} {i : Int} {l : List En} {y : En} : y ∈ onE o i l ↔ y ∈ l ∨ (o = some y.1 ∧ y.2 = i) := by
  cases o with
  | none => simp [onE]
  | some k =>
    rw [onE, mem_insE]
    constructor
    · rintro (rfl | h)
      · exact .inr ⟨rfl, rfl⟩
      · exact .inl h
    · rintro (h | ⟨e1, e2⟩)
      · exact .inr h
      · cases e1; exact .inl (by rw [← e2])
theorem sort_off {o : Option ByteArray} {i : Int} {l : List En} (h : SortE l) : SortE (offE o i l) := by
  cases o with
  | none => exact h
  | some k => exact sort_del h
theorem sort_on {o : Option ByteArray} {i : Int} {l : List En} (h : SortE l) : SortE (onE o i l) := by
  cases o with
  | none => exact h
  | some k => exact sort_ins h
theorem len_delI (e : En) : ∀ l : List En, (delE e l).length ≤ l.length := len_withTI e
theorem len_off (o : Option ByteArray) (i : Int) (l : List En) : (offE o i l).length ≤ l.length := by
  cases o with
  | none => exact Nat.le_refl _
  | some k => exact len_delI _ l
theorem len_on (o : Option ByteArray) (i : Int) (l : List En) : (onE o i l).length ≤ l.length + 1 := by
  cases o with
  | none => exact Nat.le_succ _
  | some k => exact len_withI _ false l
/-- a record becomes another one: its own entry moves. -/
theorem move_is {ps : List ByteArray} {rs : List Rec} {lo i : Int} {v u : V} (hr : RisesR lo rs) (hv : getR i rs = some v) : onE (keyP ps u) i (offE (keyP ps v) i (ofP ps rs)) = ofP ps (setR i u rs) := by
  refine sort_ext (sort_on (sort_off (ofP_sort ps rs))) (ofP_sort ps _) fun y => ?_
  rw [mem_on, mem_off, ofP_get hr, ofP_get (rises_setR hr), get_setR, hv]
  by_cases hi : y.2 = i
  · rw [if_pos hi, hi, hv]
    simp only [Option.isSome_some, if_true]
    constructor
    · rintro (⟨⟨a, ha, hk⟩, h2⟩ | ⟨h1, -⟩)
      · cases ha; exact absurd ⟨hk, trivial⟩ h2
      · exact ⟨u, rfl, h1⟩
    · rintro ⟨a, ha, hk⟩
      cases ha; exact .inr ⟨hk, trivial⟩
  · rw [if_neg hi]
    constructor
    · rintro (⟨h1, -⟩ | ⟨-, h2⟩)
      · exact h1
      · exact absurd h2 hi
    · exact fun h => .inl ⟨h, fun h2 => hi h2.2⟩

/-- records of numbers from 1 on, one after another. -/
structure FillR (rs : List Rec) (k : Nat) : Prop where
  len : rs.length = k
  nice : ∀ r ∈ rs, Nice 3 r.2
  up : UpTo k rs
  all : ∀ j : Int, 1 ≤ j → j ≤ k → (getR j rs).isSome = true
theorem FillR.nil : FillR [] 0 := ⟨rfl, fun r hr => (by cases hr), fun r hr => (by cases hr), fun j h1 h2 => by omega⟩
theorem FillR.snoc {rs : List Rec} {k : Nat} {v : V} (h : FillR rs k) (hv : Nice 3 v) : FillR (rs ++ [((k : Int) + 1, v)]) (k + 1) := by
  refine ⟨by rw [List.length_append, h.len]; rfl, fun r hr => ?_, upTo_app h.up, fun j h1 h2 => ?_⟩
  · rcases List.mem_append.1 hr with hr | hr
    · exact h.nice r hr
    · obtain rfl := List.mem_singleton.1 hr
      exact hv
  · rw [get_appR h.up]
    by_cases e : j = (k : Int) + 1
    · rw [if_pos e]; rfl
    · rw [if_neg e]
      exact h.all j h1 (by omega)
theorem nice_get {rs : List Rec} (h : ∀ r ∈ rs, Nice 3 r.2) {i : Int} {v : V} (hv : getR i rs = some v) : Nice 3 v := h _ (get_memR hv)
theorem nice_del {rs : List Rec} (h : ∀ r ∈ rs, Nice 3 r.2) (i : Int) : ∀ r ∈ delR i rs, Nice 3 r.2 := fun r hr => h r (mem_delR hr)
theorem nice_set {rs : List Rec} {lo : Int} (hr : RisesR lo rs) (h : ∀ r ∈ rs, Nice 3 r.2) {i : Int} {u : V} (hu : Nice 3 u) : ∀ r ∈ setR i u rs, Nice 3 r.2 := by
  intro r hm
  have h1 := get_of_memR (rises_setR hr) hm
  rw [get_setR] at h1
  split at h1
  · split at h1
    · cases h1; exact hu
    · cases h1
  · exact nice_get h h1

/-- an entry that has the key of the one ahead of it. -/
def Cl (l : List En) (i : Nat) : Prop := ∃ x y, l[i]? = some x ∧ l[i - 1]? = some y ∧ x.1 = y.1
theorem cl_is {l : List En} {i : Nat} {x y : En} (hx : l[i]? = some x) (hy : l[i - 1]? = some y) : Cl l i ↔ x.1 = y.1 := by
  constructor
  · rintro ⟨a, b, h1, h2, h⟩
    rw [hx] at h1
    rw [hy] at h2
    cases h1; cases h2; exact h
  · exact fun h => ⟨x, y, hx, hy, h⟩
theorem cl_one {l : List En} {i j : Nat} (hi : Cl l i) (hj : Cl l j) (hi0 : 0 < i) (hj0 : 0 < j) (h1 : ∀ k, 0 < k → k < i → ¬ Cl l k) (h2 : ∀ k, 0 < k → k < j → ¬ Cl l k) : i = j := by
  rcases Nat.lt_trichotomy i j with h | h | h
  · exact absurd hi (h2 i hi0 h)
  · exact h
  · exact absurd hj (h1 j hj0 h)
end Go.Proofs.YtfpkkobclkdniaaGreatDoor

namespace Go.Proofs.YtfpkkobclkdniaaGreatDoor
open Go.RowKit

/-- records gone through, and those still to come. -/
structure GoesR (rs : List Rec) (p : Int) (done rest : List Rec) : Prop where
  eq : rs = done ++ rest
  le : ∀ r ∈ done, r.1 ≤ p
  lt : ∀ r ∈ rest, p < r.1
theorem next_goes {p : Int} : ∀ {done rest : List Rec}, (∀ r ∈ done, r.1 ≤ p) → (∀ r ∈ rest, p < r.1) → nextR p (done ++ rest) = rest.head?
  | [], [], _, _ => rfl
  | [], r :: rs, _, h => by
    rw [List.nil_append, nextR, if_pos (h r (by simp))]
    rfl
  | d :: ds, rest, h1, h2 => by
    rw [List.cons_append, nextR, if_neg (by have := h1 d (by simp); omega)]
    exact next_goes (fun r hr => h1 r (by simp [hr])) h2
section
variable {rs done rest : List Rec} {p lo i : Int} {ps : List ByteArray} {x : Rec} {left : Int → Bool} {l : List En} {v : V}
theorem GoesR.next (h : GoesR rs p done rest) : nextR p rs = rest.head? := by
  rw [h.eq]
  exact next_goes h.le h.lt
theorem GoesR.start (hr : RisesR 0 rs) : GoesR rs 0 [] rs := ⟨rfl, fun r h => (by cases h), fun r h => hr.above r h⟩
theorem GoesR.step (h : GoesR rs p done (x :: rest)) (hr : RisesR lo rs) : GoesR rs x.1 (done ++ [x]) rest := by
  have hp := rises_pw hr
  rw [h.eq, List.pairwise_append] at hp
  have h1 := h.lt x (by simp)
  refine ⟨by rw [h.eq, List.append_assoc]; rfl, fun r hm => ?_, fun r hm => (List.pairwise_cons.1 hp.2.1).1 r hm⟩
  rcases List.mem_append.1 hm with hm | hm
  · have := h.le r hm
    omega
  · obtain rfl := List.mem_singleton.1 hm
    exact Int.le_refl _
theorem ents_some {k : ByteArray} (hk : keyP ps x.2 = some k) : (done ++ [x]).filterMap (entP ps) = done.filterMap (entP ps) ++ [(k, x.1)] := by
  rw [List.filterMap_append]
  simp [entP, hk]
theorem ents_none (hk : keyP ps x.2 = none) : (done ++ [x]).filterMap (entP ps) = done.filterMap (entP ps) := by
  rw [List.filterMap_append]
  simp [entP, hk]
theorem ents_len : (done.filterMap (entP ps)).length ≤ done.length := List.length_filterMap_le _ _

/-- the entries of those records of a map that have come. -/
structure OnL (ps : List ByteArray) (rs : List Rec) (left : Int → Bool) (l : List En) : Prop where
  sort : SortE l
  mem : ∀ y : En, y ∈ l ↔ ∃ v, getR y.2 rs = some v ∧ keyP ps v = some y.1 ∧ left y.2 = false
theorem OnL.start (h : ∀ i, (getR i rs).isSome = true → left i = true) : OnL ps rs left [] := by
  refine ⟨List.Pairwise.nil, fun y => ⟨fun hy => (by cases hy), ?_⟩⟩
  rintro ⟨v, hv, -, hl⟩
  rw [h _ (by rw [hv]; rfl)] at hl
  cases hl
theorem left_off {j : Int} : (left j && !(j == i)) = false ↔ left j = false ∨ j = i := by
  cases left j <;> simp
theorem OnL.step_none (h : OnL ps rs left l) (hv : getR i rs = some v) (hk : keyP ps v = none) : OnL ps rs (fun j => left j && !(j == i)) l := by
  refine ⟨h.sort, fun y => (h.mem y).trans ⟨?_, ?_⟩⟩
  · rintro ⟨u, h1, h2, h3⟩
    exact ⟨u, h1, h2, left_off.2 (.inl h3)⟩
  · rintro ⟨u, h1, h2, h3⟩
    rcases left_off.1 h3 with h3 | h3
    · exact ⟨u, h1, h2, h3⟩
    · rw [h3, hv] at h1
      cases h1
      rw [hk] at h2
      cases h2
theorem OnL.step_some {k : ByteArray} (h : OnL ps rs left l) (hv : getR i rs = some v) (hk : keyP ps v = some k) : OnL ps rs (fun j => left j && !(j == i)) (insE (k, i) l) := by
  refine ⟨sort_ins h.sort, fun y => ?_⟩
  rw [mem_insE, h.mem y]
  constructor
  · rintro (rfl | ⟨u, h1, h2, h3⟩)
    · exact ⟨v, hv, hk, left_off.2 (.inr rfl)⟩
    · exact ⟨u, h1, h2, left_off.2 (.inl h3)⟩
  · rintro ⟨u, h1, h2, h3⟩
    rcases left_off.1 h3 with h3 | h3
    · exact .inr ⟨u, h1, h2, h3⟩
    · rw [h3, hv] at h1
      cases h1
      rw [hk] at h2
      cases h2
      exact .inl (Prod.ext rfl h3)
theorem OnL.over (h : OnL ps rs left l) (hr : RisesR lo rs) (h0 : ∀ i, left i = false) : l = ofP ps rs := by
  refine mapped_is hr h.sort fun y => (h.mem y).trans ⟨?_, ?_⟩
  · rintro ⟨u, h1, h2, -⟩
    exact ⟨u, h1, h2⟩
  · rintro ⟨u, h1, h2⟩
    exact ⟨u, h1, h2, h0 _⟩
theorem len_ins (e : En) (l : List En) : (insE e l).length ≤ l.length + 1 := len_withI e false l
end

/-- what Clash answers. -/
def ClAns (l : List En) (k : ByteArray) (i : Int) (ok : Bool) : Prop :=
  (ok = true ∧ ∃ j x, 0 < j ∧ Cl l j ∧ l[j]? = some x ∧ k = x.1 ∧ i = x.2 ∧ ∀ q, 0 < q → q < j → ¬ Cl l q) ∨ (ok = false ∧ k = ⟨#[]⟩ ∧ i = 0 ∧ ∀ q, 0 < q → ¬ Cl l q)
theorem ClAns.at {l : List En} {k : ByteArray} {i : Int} {ok : Bool} (h : ClAns l k i ok) {j : Nat} {x : En} (hj : 0 < j) (hc : Cl l j) (hx : l[j]? = some x) (h1 : ∀ q, 0 < q → q < j → ¬ Cl l q) : ok = true ∧ k = x.1 ∧ i = x.2 := by
  rcases h with ⟨h, j', x', h0, h2, h3, h4, h5, h6⟩ | ⟨-, -, -, h⟩
  · obtain rfl := cl_one hc h2 hj h0 h1 h6
    rw [hx] at h3
    cases h3
    exact ⟨h, h4, h5⟩
  · exact absurd hc (h j hj)
theorem ClAns.no {l : List En} {k : ByteArray} {i : Int} {ok : Bool} (h : ClAns l k i ok) (h1 : ∀ q, 0 < q → q < l.length → ¬ Cl l q) : ok = false ∧ k = ⟨#[]⟩ ∧ i = 0 := by
  rcases h with ⟨-, j, x, h0, h2, h3, -⟩ | ⟨h, h2, h3, -⟩
  · exact absurd h2 (h1 j h0 (List.getElem?_eq_some_iff.1 h3).1)
  · exact ⟨h, h2, h3⟩
theorem cl_end {l : List En} (h : ∀ q, 0 < q → q < l.length → ¬ Cl l q) : ∀ q, 0 < q → ¬ Cl l q := fun q h0 hc => by
  obtain ⟨x, y, hx, -⟩ := id hc
  exact h q h0 (List.getElem?_eq_some_iff.1 hx).1 hc
theorem cl_more {l : List En} {j : Nat} (h : ∀ q, 0 < q → q < j → ¬ Cl l q) (hj : ¬ Cl l j) : ∀ q, 0 < q → q < j + 1 → ¬ Cl l q := fun q h0 h1 => by
  by_cases e : q = j
  · subst e; exact hj
  · exact h q h0 (by omega)
end Go.Proofs.YtfpkkobclkdniaaGreatDoor

namespace Go.Proofs.YtfpkkobclkdniaaGreatDoor

/-- the parts, of which the first one has begun already. -/
def dotG : List UInt8 → List UInt8 → List (List UInt8)
  | p, [] => [p]
  | p, c :: l => if c = 46 then p :: dotG [] l else dotG (p ++ [c]) l
theorem dotG_pos : ∀ (l p : List UInt8), 1 ≤ (dotG p l).length
  | [], p => by simp [dotG]
  | c :: l, p => by
    unfold dotG
    split
    · simp
    · exact dotG_pos l _
theorem dotG_le : ∀ (l p : List UInt8), (dotG p l).length ≤ l.length + 1
  | [], p => by simp [dotG]
  | c :: l, p => by
    unfold dotG
    split
    · have := dotG_le l []; simp; omega
    · have := dotG_le l (p ++ [c]); simp; omega
theorem dot_index : ∀ (s p : List UInt8), (Lib.index s [46] = -1 ∧ dotG p s = [p ++ s]) ∨ ∃ i : Nat, Lib.index s [46] = i ∧ i < s.length ∧ dotG p s = (p ++ s.take i) :: dotG [] (s.drop (i + 1))
  | [], p => .inl ⟨by simp [Lib.index], by simp [dotG]⟩
  | c :: l, p => by
    by_cases h : c = 46
    · right
      subst h
      exact ⟨0, by rw [Lib.index]; simp [List.isPrefixOf], by simp, by simp [dotG]⟩
    · have hp : ([46] : List UInt8).isPrefixOf (c :: l) = false := by simp [List.isPrefixOf, Ne.symm h]
      have hix : Lib.index (c :: l) [46] = if Lib.index l [46] == -1 then -1 else Lib.index l [46] + 1 := by rw [Lib.index, hp]; simp
      have hd : dotG p (c :: l) = dotG (p ++ [c]) l := by rw [dotG, if_neg h]
      rcases dot_index l (p ++ [c]) with ⟨h1, h2⟩ | ⟨i, h1, h2, h3⟩
      · left
        exact ⟨by rw [hix, h1]; rfl, by rw [hd, h2]; simp⟩
      · right
        refine ⟨i + 1, ?_, by simp; omega, by rw [hd, h3]; simp⟩
        rw [hix, h1, if_neg (fun e => by have := beq_iff_eq.1 e; omega)]; omega
theorem splitK_dot : ∀ (k : Nat) (s : List UInt8), (Lib.splitK [46] 0 k s).length = min (k + 1) (dotG [] s).length ∧ (Lib.splitK [46] 0 k s).take k = (dotG [] s).take k ∧ ((dotG [] s).length ≤ k + 1 → Lib.splitK [46] 0 k s = dotG [] s)
  | 0, s => by
    have hp := dotG_pos s []
    refine ⟨by simp [Lib.splitK]; omega, by simp, fun h => ?_⟩
    rcases dot_index s [] with ⟨_, h2⟩ | ⟨i, _, _, h3⟩
    · rw [h2]; simp [Lib.splitK]
    · rw [h3] at h
      have hq := dotG_pos (s.drop (i + 1)) []
      rw [List.length_cons] at h
      omega
  | k + 1, s => by
    rcases dot_index s [] with ⟨h1, h2⟩ | ⟨i, h1, h2, h3⟩
    · have e : Lib.splitK [46] 0 (k + 1) s = [s] := by rw [Lib.splitK, if_pos (beq_iff_eq.2 h1)]
      rw [e, h2]
      simp
    · have e : Lib.splitK [46] 0 (k + 1) s = s.take i :: Lib.splitK [46] 0 k (s.drop (i + 1)) := by
        rw [Lib.splitK, if_neg (fun e => by have := beq_iff_eq.1 e; omega), h1]
        simp
      obtain ⟨g1, g2, g3⟩ := splitK_dot k (s.drop (i + 1))
      rw [e, h3]
      refine ⟨by simp only [List.length_cons]; omega, by simp only [List.take_succ_cons, g2, List.nil_append], fun h => ?_⟩
      rw [g3 (by simp only [List.length_cons] at h; omega), List.nil_append]

def mkB (l : List UInt8) : ByteArray := ⟨l.toArray⟩
/-- the parts of a text. -/
def dots (s : ByteArray) : List ByteArray := (dotG [] s.data.toList).map mkB
abbrev goodPart (p : ByteArray) : Prop := 1 ≤ p.size ∧ p.size ≤ 32
/-- a path by its parts. -/
def parsePP (s : ByteArray) : Option (List ByteArray) :=
  if Lib.validD s.data.toList = true ∧ (dots s).length ≤ 8 ∧ ∀ p ∈ dots s, goodPart p then some (dots s) else none
theorem mkB_data (b : ByteArray) : mkB b.data.toList = b := by
  obtain ⟨⟨l⟩⟩ := b; rfl
/-- what SplitN hands back of at most nine. -/
theorem split_nine (s : ByteArray) : ((Lib.splitB ⟨#[46]⟩ 0 (min 9 (s.size + 1) - 1) s).length ≤ 9) ∧ ((dots s).length ≤ 8 → Lib.splitB ⟨#[46]⟩ 0 (min 9 (s.size + 1) - 1) s = dots s) ∧ (8 < (dots s).length → 8 < (Lib.splitB ⟨#[46]⟩ 0 (min 9 (s.size + 1) - 1) s).length) := by
  have hd := Lib.splitB_data ⟨#[46]⟩ 0 (min 9 (s.size + 1) - 1) s
  have hl := congrArg List.length hd
  rw [List.length_map] at hl
  have hb : Lib.splitB ⟨#[46]⟩ 0 (min 9 (s.size + 1) - 1) s = (Lib.splitK [46] 0 (min 9 (s.size + 1) - 1) s.data.toList).map mkB := by
    have := congrArg (List.map mkB) hd
    rw [List.map_map] at this
    have e : (mkB ∘ fun b : ByteArray => b.data.toList) = id := by funext b; exact mkB_data b
    rw [e, List.map_id] at this
    exact this
  obtain ⟨g1, g2, g3⟩ := splitK_dot (min 9 (s.size + 1) - 1) s.data.toList
  have hz : s.data.toList.length = s.size := rfl
  have hle := dotG_le s.data.toList []
  have hdl : (dots s).length = (dotG [] s.data.toList).length := List.length_map ..
  have e46 : ((⟨#[46]⟩ : ByteArray).data.toList) = [46] := rfl
  rw [e46] at hl
  rw [hl, g1, hdl]
  refine ⟨by omega, fun h => ?_, fun h => by omega⟩
  rw [hb, g3 (by omega)]
  rfl
end Go.Proofs.YtfpkkobclkdniaaGreatDoor
