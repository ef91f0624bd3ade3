/-
  A key is read as the value that it is of, and how long it is: plain. Conditions: as stated.
-/
import Derived.Test.YtehjdamdlokoaaaDoorKR
import Derived.Test.YtehjdamdlokoaaaDoorKW
import Derived.Test.YtehjdamdlokoaaaDoorJValid
namespace Go.Proofs.YtehjdamdlokoaaaDoor
open Go.RowKit

theorem Nice.partsK {n : Nat} {v : V} (h : Nice n v) : 0 ≤ v.kind ∧ v.kind ≤ 5 ∧ I64 v.num ∧ Wd v.kind v.num v.text := by
  cases n with
  | zero => exact ⟨h.1, h.2.1, h.2.2.1, h.2.2.2.1⟩
  | succ n => exact ⟨h.1, h.2.1, h.2.2.1, h.2.2.2.1⟩
theorem Nice.innerK {n : Nat} {v : V} (h : Nice n v) : v.list.length ≤ 3 ∧ v.fields.length ≤ 4 ∧ Rises v.fields ∧ (∀ x ∈ v.list, ∃ m, n = m + 1 ∧ Nice m x) ∧ (∀ p ∈ v.fields, (∃ i, p.1 = nameAt i) ∧ ∃ m, n = m + 1 ∧ Nice m p.2) := by
  cases n with
  | zero =>
    obtain ⟨_, _, _, _, h5, h6⟩ := h
    rw [h5, h6]
    exact ⟨by simp, by simp, trivial, fun x hx => (by cases hx), fun x hx => (by cases hx)⟩
  | succ n =>
    obtain ⟨_, _, _, _, h5, h6, h7, h8, h9⟩ := h
    exact ⟨h5, h6, h7, fun x hx => ⟨n, rfl, h8 x hx⟩, fun p hp => ⟨(h9 p hp).1, n, rfl, (h9 p hp).2⟩⟩
/-- a value with nothing beside its kind. -/
def canK : Nat → V → V
  | 0, _ => nulV
  | n + 1, v =>
    if v.kind = 1 then boolV v.num
    else if v.kind = 2 then intV v.num
    else if v.kind = 3 then textV v.text
    else if v.kind = 4 then listV (v.list.map (canK n))
    else if v.kind = 5 then objV (v.fields.map fun p => (p.1, canK n p.2))
    else nulV
theorem ktext_back : ∀ (l r : List UInt8), ktextP (writtenL l ++ r) = some (l, r)
  | [], r => ktextP_shut r
  | c :: l, r => by
    have ih := ktext_back l r
    by_cases h : c = 0
    · subst h
      have e : writtenL (0 :: l) ++ r = 0 :: 255 :: (writtenL l ++ r) := by simp [writtenL, wr1]
      rw [e, ktextP_stays, ih]; rfl
    · have e : writtenL (c :: l) ++ r = c :: (writtenL l ++ r) := by simp [writtenL, wr1, h]
      rw [e, ktextP_more c _ h, ih]; rfl
theorem numL_eight (m : Nat) (h : m < 18446744073709551616) : numL (eight m) = m := by
  simp only [numL, eight, List.foldl, UInt8.toNat_ofNat']
  omega
theorem int_back (n : Int) (h : I64 n) : tw (wrap64 (numL (intL n) : Int)) = n := by
  obtain ⟨h1, h2⟩ := h
  unfold intL
  rw [numL_eight _ (by unfold turnN; omega)]
  unfold turnN tw wrap64
  split <;> omega
theorem row_back {α β : Type} {f : List UInt8 → Option (β × List UInt8)} {g : α → List UInt8} {h : α → β} (r : List UInt8) : ∀ (xs : List α) (_ : ∀ x ∈ xs, (∃ c t, g x = c :: t ∧ c ≠ 0) ∧ ∀ s, f (g x ++ s) = some (h x, s)) (m : Nat), xs.length < m → rowK f m (xs.flatMap g ++ 0 :: r) = some (xs.map h, r)
  | _, _, 0, hm => by omega
  | [], _, m + 1, _ => by simp [rowK]
  | x :: xs, hx, m + 1, hm => by
    have ih := row_back r xs (fun y hy => hx y (List.mem_cons_of_mem _ hy)) m (by simp only [List.length_cons] at hm; omega)
    obtain ⟨⟨c, t, e, hc⟩, hf⟩ := hx x (by simp)
    have e2 : (x :: xs).flatMap g ++ 0 :: r = g x ++ (xs.flatMap g ++ 0 :: r) := by simp
    rw [e2, rowK, if_neg (by rw [e]; simpa using hc), hf]
    simp only [ih]
    rfl
theorem flat_len {α : Type} {g : α → List UInt8} : ∀ (xs : List α), (∀ x ∈ xs, g x ≠ []) → xs.length ≤ (xs.flatMap g).length
  | [], _ => by simp
  | x :: xs, h => by
    have ih := flat_len xs fun y hy => h y (List.mem_cons_of_mem _ hy)
    have h1 := List.length_pos_iff.2 (h x (by simp))
    simp only [List.flatMap_cons, List.length_append, List.length_cons]
    omega
theorem putV_hd (n : Nat) (v : V) (h0 : 0 ≤ v.kind) (h5 : v.kind ≤ 5) : ∃ c t, putV (n + 1) v = c :: t ∧ c ≠ 0 ∧ (c.toNat : Int) - 1 = v.kind ∧ t = tailV (putV n) v := by
  have e : (UInt8.ofNat (v.kind.toNat + 1)).toNat = v.kind.toNat + 1 := by rw [UInt8.toNat_ofNat']; omega
  refine ⟨_, _, rfl, fun h => ?_, by rw [e]; omega, rfl⟩
  have := congrArg UInt8.toNat h
  rw [e] at this
  simp at this
theorem mk_data (s : ByteArray) : (⟨s.data.toList.toArray⟩ : ByteArray) = s := by cases s; simp

theorem value_back : ∀ (n : Nat) (v : V), Nice n v → ∀ k, n < k → ∀ r, valueK k (putV (n + 1) v ++ r) = some (canK (n + 1) v, r) := by
  intro n
  induction n using Nat.strongRecOn with
  | _ n ih =>
    intro v hv k hk r
    obtain ⟨k, rfl⟩ : ∃ k', k = k' + 1 := ⟨k - 1, by omega⟩
    obtain ⟨k0, k1, hI, ⟨_, hb⟩⟩ := hv.partsK
    obtain ⟨_, _, _, hli, hfi⟩ := hv.innerK
    obtain ⟨c, t, e, hc, hck, rfl⟩ := putV_hd n v k0 k1
    have e2 : putV (n + 1) v ++ r = c :: (tailV (putV n) v ++ r) := by rw [e]; rfl
    rw [e2]
    show kindK (valueK k) ((c.toNat : Int) - 1) (tailV (putV n) v ++ r) = _
    rw [hck]
    obtain e | e | e | e | e | e : v.kind = 0 ∨ v.kind = 1 ∨ v.kind = 2 ∨ v.kind = 3 ∨ v.kind = 4 ∨ v.kind = 5 := by omega
    · simp [kindK, canK, tailV, e, nulV]
    · rcases hb e with h | h <;> simp [kindK, canK, tailV, e, h, boolV, numL, wrap64]
    · have hl : (intL v.num).length = 8 := rfl
      have ht : (intL v.num ++ r).take 8 = intL v.num := by rw [← hl]; simp
      have hd : (intL v.num ++ r).drop 8 = r := by rw [← hl]; simp
      have hlen : ¬ (intL v.num ++ r).length < 8 := by rw [List.length_append, hl]; omega
      simp only [kindK, canK, tailV, e]
      simp only [show ¬ (2 : Int) = 1 by decide, if_false, if_true, if_neg hlen, ht, hd, int_back v.num hI]
      rfl
    · simp [kindK, canK, tailV, e, textV, ktext_back]
    · have hx : ∀ x ∈ v.list, (∃ c t, putV n x = c :: t ∧ c ≠ 0) ∧ ∀ s, valueK k (putV n x ++ s) = some (canK n x, s) := fun x hx => by
        obtain ⟨m, rfl, hm⟩ := hli x hx
        obtain ⟨p0, p1, _, _⟩ := hm.partsK
        obtain ⟨c, t, e1, e2, _⟩ := putV_hd m x p0 p1
        exact ⟨⟨c, t, e1, e2⟩, ih m (by omega) x hm k (by omega)⟩
      have hfl := flat_len v.list (g := putV n) fun x hm h => by
        obtain ⟨⟨c, t, e1, _⟩, _⟩ := hx x hm
        rw [e1] at h; cases h
      have hr := row_back (f := valueK k) (g := putV n) (h := canK n) r v.list hx ((v.list.flatMap (putV n) ++ 0 :: r).length + 1) (by rw [List.length_append]; omega)
      simp only [kindK, canK, tailV, e]
      simp only [show ¬ (4 : Int) = 1 by decide, show ¬ (4 : Int) = 2 by decide, show ¬ (4 : Int) = 3 by decide, if_false, if_true, List.append_assoc, List.singleton_append, hr]
      rfl
    · have hx : ∀ p ∈ v.fields, (∃ c t, fieldL (putV n) p = c :: t ∧ c ≠ 0) ∧ ∀ s, fieldK (valueK k) (fieldL (putV n) p ++ s) = some ((p.1, canK n p.2), s) := fun p hp => by
        obtain ⟨_, m, rfl, hm⟩ := hfi p hp
        refine ⟨⟨1, _, rfl, by decide⟩, fun s => ?_⟩
        have e3 : fieldL (putV (m + 1)) p ++ s = 1 :: (writtenL p.1.data.toList ++ (putV (m + 1) p.2 ++ s)) := by simp [fieldL]
        rw [e3]
        simp only [fieldK, List.head?_cons, if_true, List.tail_cons, ktext_back, ih m (by omega) p.2 hm k (by omega) s, Option.map_some, mk_data]
      have hfl := flat_len v.fields (g := fieldL (putV n)) fun x hm h => by cases h
      have hr := row_back (f := fieldK (valueK k)) (g := fieldL (putV n)) (h := fun p => (p.1, canK n p.2)) r v.fields hx ((v.fields.flatMap (fieldL (putV n)) ++ 0 :: r).length + 1) (by rw [List.length_append]; omega)
      simp only [kindK, canK, tailV, e]
      simp only [show ¬ (5 : Int) = 1 by decide, show ¬ (5 : Int) = 2 by decide, show ¬ (5 : Int) = 3 by decide, show ¬ (5 : Int) = 4 by decide, if_false, if_true, List.append_assoc, List.singleton_append, hr]
      rfl

theorem cmpL_mapK {α : Type} {f : α → α → Int} {g : α → α} : ∀ (xs : List α), (∀ x ∈ xs, f x (g x) = 0) → cmpL f xs (xs.map g) = 0
  | [], _ => rfl
  | x :: xs, h => by
    show (if f x (g x) = 0 then cmpL f xs (xs.map g) else f x (g x)) = 0
    rw [if_pos (h x (by simp))]
    exact cmpL_mapK xs fun y hy => h y (List.mem_cons_of_mem _ hy)
theorem canK_kind {n : Nat} {v : V} (h : Nice n v) : (canK (n + 1) v).kind = v.kind := by
  obtain ⟨k0, k1, _, _⟩ := h.partsK
  obtain e | e | e | e | e | e : v.kind = 0 ∨ v.kind = 1 ∨ v.kind = 2 ∨ v.kind = 3 ∨ v.kind = 4 ∨ v.kind = 5 := by omega
  all_goals simp [canK, e, nulV, boolV, intV, textV, listV, objV]
theorem canK_same : ∀ (k n : Nat) (v : V), Nice n v → cmpV k v (canK (n + 1) v) = 0
  | 0, _, _, _ => rfl
  | k + 1, n, v, h => by
    obtain ⟨_, _, _, hli, hfi⟩ := h.innerK
    have hk := canK_kind h
    show (if v.kind = (canK (n + 1) v).kind then _ else _) = (0 : Int)
    rw [if_pos hk.symm]
    obtain ⟨k0, k1, _, _⟩ := h.partsK
    obtain e | e | e | e | e | e : v.kind = 0 ∨ v.kind = 1 ∨ v.kind = 2 ∨ v.kind = 3 ∨ v.kind = 4 ∨ v.kind = 5 := by omega
    · simp [e]
    · have : (canK (n + 1) v).num = v.num := by simp [canK, e, boolV]
      simp [e, this, cmpI]
    · have : (canK (n + 1) v).num = v.num := by simp [canK, e, intV]
      simp [e, this, cmpI]
    · have : (canK (n + 1) v).text = v.text := by simp [canK, e, textV]
      simp [e, this, good_cmpT.refl]
    · have : (canK (n + 1) v).list = v.list.map (canK n) := by simp [canK, e, listV]
      simp only [e, this]
      simp only [show ¬ ((4 : Int) = 1 ∨ (4 : Int) = 2) by decide, show ¬ (4 : Int) = 3 by decide, if_false, if_true]
      refine cmpL_mapK _ fun x hx => ?_
      obtain ⟨m, rfl, hm⟩ := hli x hx
      exact canK_same k m x hm
    · have : (canK (n + 1) v).fields = v.fields.map fun p => (p.1, canK n p.2) := by simp [canK, e, objV]
      simp only [e, this]
      simp only [show ¬ ((5 : Int) = 1 ∨ (5 : Int) = 2) by decide, show ¬ (5 : Int) = 3 by decide, show ¬ (5 : Int) = 4 by decide, if_false, if_true]
      refine cmpL_mapK _ fun x hx => ?_
      obtain ⟨_, m, rfl, hm⟩ := hfi x hx
      show (if cmpT x.1 x.1 = 0 then cmpV k x.2 (canK (m + 1) x.2) else _) = 0
      rw [if_pos (good_cmpT.refl _)]
      exact canK_same k m x.2 hm
theorem word_validK (i : Nat) : Lib.validD (wordAt i).data.toList = true := by
  unfold wordAt
  split <;> kernel_rfl
theorem name_validK (i : Nat) : Lib.validD (nameAt i).data.toList = true := by
  unfold nameAt
  split <;> kernel_rfl
theorem rises_mapK (g : V → V) : ∀ (fs : List (ByteArray × V)), Rises fs → Rises (fs.map fun p => (p.1, g p.2))
  | [], _ => trivial
  | [_], _ => trivial
  | _ :: q :: r, h => ⟨h.1, rises_mapK g (q :: r) h.2⟩
theorem canK_ok : ∀ (n : Nat) (v : V), Nice n v → ∀ m, n ≤ m → VOk m (canK (n + 1) v) := by
  intro n
  induction n using Nat.strongRecOn with
  | _ n ih =>
    intro v hv m hm
    obtain ⟨k0, k1, hI, ⟨⟨w, hw⟩, hb⟩⟩ := hv.partsK
    obtain ⟨_, _, hri, hli, hfi⟩ := hv.innerK
    obtain e | e | e | e | e | e : v.kind = 0 ∨ v.kind = 1 ∨ v.kind = 2 ∨ v.kind = 3 ∨ v.kind = 4 ∨ v.kind = 5 := by omega
    · rw [show canK (n + 1) v = nulV by simp [canK, e]]
      cases m <;> exact .inl rfl
    · rw [show canK (n + 1) v = boolV v.num by simp [canK, e]]
      rcases hb e with h | h
      · rw [h]; cases m <;> exact .inr (.inl (.inl rfl))
      · rw [h]; cases m <;> exact .inr (.inl (.inr rfl))
    · rw [show canK (n + 1) v = intV v.num by simp [canK, e]]
      cases m <;> exact .inr (.inr (.inl ⟨_, rfl⟩))
    · rw [show canK (n + 1) v = textV v.text by simp [canK, e]]
      have hs : v.text.size ≤ 1000000 := by rw [hw]; exact Nat.le_trans (wordAt_size w) (by decide)
      have hvd : Lib.validD v.text.data.toList = true := by rw [hw]; exact word_validK w
      cases m <;> exact .inr (.inr (.inr (.inl ⟨_, rfl, hs, hvd⟩)))
    · rw [show canK (n + 1) v = listV (v.list.map (canK n)) by simp [canK, e]]
      cases m with
      | zero =>
        have hl : v.list = [] := by
          cases hx : v.list with
          | nil => rfl
          | cons x xs => obtain ⟨m', e', _⟩ := hli x (by rw [hx]; simp); omega
        rw [hl]
        exact .inr (.inr (.inr (.inr (.inl rfl))))
      | succ m =>
        refine .inr (.inr (.inr (.inr (.inl ⟨_, rfl, fun y hy => ?_⟩))))
        obtain ⟨x, hx, rfl⟩ := List.mem_map.1 hy
        obtain ⟨k, rfl, hk⟩ := hli x hx
        exact ih k (by omega) x hk m (by omega)
    · rw [show canK (n + 1) v = objV (v.fields.map fun p => (p.1, canK n p.2)) by simp [canK, e]]
      cases m with
      | zero =>
        have hl : v.fields = [] := by
          cases hx : v.fields with
          | nil => rfl
          | cons x xs => obtain ⟨_, m', e', _⟩ := hfi x (by rw [hx]; simp); omega
        rw [hl]
        exact .inr (.inr (.inr (.inr (.inr rfl))))
      | succ m =>
        refine .inr (.inr (.inr (.inr (.inr ⟨_, rfl, rises_mapK _ _ hri, fun y hy => ?_⟩))))
        obtain ⟨x, hx, rfl⟩ := List.mem_map.1 hy
        obtain ⟨⟨i, hi⟩, k, rfl, hk⟩ := hfi x hx
        refine ⟨?_, ?_, ih k (by omega) x.2 hk m (by omega)⟩
        · show x.1.size ≤ _
          rw [hi]; exact Nat.le_trans (nameAt_size i) (by decide)
        · show Lib.validD x.1.data.toList = true
          rw [hi]; exact name_validK i
theorem nice_kfit : ∀ (n : Nat) (v : V), Nice n v → KFit n v
  | 0, v, h => by
    obtain ⟨k0, k1, hI, hw⟩ := h.partsK
    exact ⟨k0, k1, hI, hw.2, Nat.le_trans hw.size (by decide)⟩
  | n + 1, v, h => by
    obtain ⟨k0, k1, hI, hw⟩ := h.partsK
    obtain ⟨_, _, _, hli, hfi⟩ := h.innerK
    refine ⟨⟨k0, k1, hI, hw.2, Nat.le_trans hw.size (by decide)⟩, fun x hx => ?_, fun p hp => ?_⟩
    · obtain ⟨m, e, hm⟩ := hli x hx
      obtain rfl : n = m := by omega
      exact nice_kfit n x hm
    · obtain ⟨⟨i, hi⟩, m, e, hm⟩ := hfi p hp
      obtain rfl : n = m := by omega
      exact ⟨by rw [hi]; exact Nat.le_trans (nameAt_size i) (by decide), nice_kfit n p.2 hm⟩
/-- how long a key is at most. -/
def maxK : Nat → Nat
  | 0 => 0
  | n + 1 => 40 + 4 * (8 + maxK n)
theorem written_len (l : List UInt8) : (writtenL l).length ≤ 2 * l.length + 2 := by
  have : ∀ l : List UInt8, (l.flatMap wr1).length ≤ 2 * l.length := by
    intro l
    induction l with
    | nil => simp
    | cons c l ih =>
      have h : (wr1 c).length ≤ 2 := by unfold wr1; split <;> simp
      simp only [List.flatMap_cons, List.length_append, List.length_cons]
      omega
  have h := this l
  simp only [writtenL, List.length_append, List.length_cons, List.length_nil]
  omega
theorem flat_max {α : Type} {g : α → List UInt8} (b : Nat) : ∀ (xs : List α), (∀ x ∈ xs, (g x).length ≤ b) → (xs.flatMap g).length ≤ xs.length * b
  | [], _ => by simp
  | x :: xs, h => by
    have ih := flat_max b xs fun y hy => h y (List.mem_cons_of_mem _ hy)
    have h1 := h x (by simp)
    simp only [List.flatMap_cons, List.length_append, List.length_cons, Nat.succ_mul]
    omega
theorem put_len : ∀ (n : Nat) (v : V), Nice n v → (putV (n + 1) v).length ≤ maxK (n + 1) := by
  intro n
  induction n using Nat.strongRecOn with
  | _ n ih =>
    intro v hv
    obtain ⟨k0, k1, hI, hw⟩ := hv.partsK
    obtain ⟨hn3, hn4, _, hli, hfi⟩ := hv.innerK
    have hsz : v.text.data.toList.length ≤ 16 := by have := hw.size; rw [ba_size] at this; exact this
    show (tailV (putV n) v).length + 1 ≤ 40 + 4 * (8 + maxK n)
    obtain e | e | e | e | e | e : v.kind = 0 ∨ v.kind = 1 ∨ v.kind = 2 ∨ v.kind = 3 ∨ v.kind = 4 ∨ v.kind = 5 := by omega
    · simp only [tailV, e]; simp; omega
    · simp only [tailV, e]; simp; omega
    · simp only [tailV, e]; simp [intL, eight]; omega
    · have := written_len v.text.data.toList
      simp only [tailV, e]
      simp only [show ¬ (3 : Int) = 1 by decide, show ¬ (3 : Int) = 2 by decide, if_false, if_true]
      omega
    · have h := flat_max (g := putV n) (maxK n) v.list fun x hx => by
        obtain ⟨m, rfl, hm⟩ := hli x hx
        exact ih m (by omega) x hm
      have h2 : v.list.length * maxK n ≤ 3 * maxK n := Nat.mul_le_mul_right _ hn3
      simp only [tailV, e]
      simp only [show ¬ (4 : Int) = 1 by decide, show ¬ (4 : Int) = 2 by decide, show ¬ (4 : Int) = 3 by decide, if_false, if_true, List.length_append, List.length_singleton]
      omega
    · have h := flat_max (g := fieldL (putV n)) (8 + maxK n) v.fields fun x hx => by
        obtain ⟨⟨i, hi⟩, m, rfl, hm⟩ := hfi x hx
        have h1 := ih m (by omega) x.2 hm
        have h2 := written_len x.1.data.toList
        have h3 := nameAt_size i
        rw [← hi, ba_size] at h3
        simp only [fieldL, List.length_cons, List.length_append]
        omega
      have h2 : v.fields.length * (8 + maxK n) ≤ 4 * (8 + maxK n) := Nat.mul_le_mul_right _ hn4
      simp only [tailV, e]
      simp only [show ¬ (5 : Int) = 1 by decide, show ¬ (5 : Int) = 2 by decide, show ¬ (5 : Int) = 3 by decide, show ¬ (5 : Int) = 4 by decide, if_false, if_true, List.length_append, List.length_singleton]
      omega

theorem put_size {v : V} (h : Nice 3 v) {P : ByteArray} (hP : (⟨(putV (3 + 1) v).toArray⟩ : ByteArray) = P) : P.size ≤ 6120 := by
  rw [← hP]
  have := put_len 3 v h
  have e : (⟨(putV (3 + 1) v).toArray⟩ : ByteArray).size = (putV (3 + 1) v).length := (ba_size _).trans (by simp)
  rw [e]
  exact this
end Go.Proofs.YtehjdamdlokoaaaDoor
