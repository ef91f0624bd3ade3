/-
  What is read of what was printed: the same value, printed the same; and how long it is. No conditions beyond those stated.
-/
import Derived.Test.YtdcaohnaiepllaaGreatDoorJBack
import Derived.Test.YtdcaohnaiepllaaGreatDoorJValid
import Derived.Test.YtdcaohnaiepllaaGreatDoorJRB
namespace Go.Proofs.YtdcaohnaiepllaaGreatDoor

def bnd : Nat → Nat
  | 0 => 21
  | n + 1 => 2 + 4 * (5 + bnd n)
theorem bnd_ge : ∀ n, 21 ≤ bnd n
  | 0 => Nat.le_refl _
  | n + 1 => by have := bnd_ge n; simp only [bnd]; omega
theorem sepBy_le (B : Nat) : ∀ (xs : List (List UInt8)), (∀ x ∈ xs, x.length ≤ B) → (sepBy xs).length ≤ xs.length * (B + 1)
  | [], _ => by simp [sepBy]
  | [x], h => by
    have := h x (by simp)
    simp only [sepBy, List.length_singleton]; omega
  | x :: y :: r, h => by
    have h1 := h x (by simp)
    have ih := sepBy_le B (y :: r) fun z hz => h z (by simp [hz])
    show (x ++ 44 :: sepBy (y :: r)).length ≤ _
    rw [List.length_append, List.length_cons]
    have e : (x :: y :: r).length * (B + 1) = (y :: r).length * (B + 1) + (B + 1) := by rw [List.length_cons, Nat.succ_mul]
    omega
theorem print_len : ∀ (n : Nat) (v : V), Nice n v → (printV (n + 1) v).length ≤ bnd n := by
  intro n
  induction n using Nat.strongRecOn with
  | _ n ih =>
    intro v hv
    obtain ⟨k0, k1, ⟨i0, i1⟩, ⟨⟨w, hw⟩, hb⟩⟩ := hv.parts
    obtain ⟨l3, f4, hri, hli, hfi⟩ := hv.inner
    have hge := bnd_ge n
    rw [printV_step]
    obtain e | e | e | e | e | e : v.kind = 0 ∨ v.kind = 1 ∨ v.kind = 2 ∨ v.kind = 3 ∨ v.kind = 4 ∨ v.kind = 5 := by omega
    · have hp : stepL (91 :: (sepBy (v.list.map (printV n)) ++ [93])) (123 :: (sepBy (v.fields.map (fieldL n)) ++ [125])) v = wNull := by simp [stepL, e]
      rw [hp]; exact Nat.le_trans (by decide) hge
    · have hp : stepL (91 :: (sepBy (v.list.map (printV n)) ++ [93])) (123 :: (sepBy (v.fields.map (fieldL n)) ++ [125])) v = (if v.num = 1 then wTrue else wFalse) := by simp [stepL, e]
      rw [hp]
      split <;> exact Nat.le_trans (by decide) hge
    · have hp : stepL (91 :: (sepBy (v.list.map (printV n)) ++ [93])) (123 :: (sepBy (v.fields.map (fieldL n)) ++ [125])) v = Lib.itoa v.num := by simp [stepL, e]
      rw [hp]; exact Nat.le_trans (Lib.itoa_length_le v.num i0 i1) hge
    · have hp : stepL (91 :: (sepBy (v.list.map (printV n)) ++ [93])) (123 :: (sepBy (v.fields.map (fieldL n)) ++ [125])) v = quoteL v.text.data.toList := by simp [stepL, e]
      rw [hp, hw]; exact Nat.le_trans (word_len w) (by omega)
    · have hp : stepL (91 :: (sepBy (v.list.map (printV n)) ++ [93])) (123 :: (sepBy (v.fields.map (fieldL n)) ++ [125])) v = 91 :: (sepBy (v.list.map (printV n)) ++ [93]) := by simp [stepL, e]
      rw [hp]
      cases hlist : v.list with
      | nil => simp [sepBy]; omega
      | cons x xs =>
        obtain ⟨m, rfl, _⟩ := hli x (by rw [hlist]; simp)
        have hs := sepBy_le (bnd m) (v.list.map (printV (m + 1))) fun y hy => by
          obtain ⟨z, hz, rfl⟩ := List.mem_map.1 hy
          obtain ⟨m', e', hz'⟩ := hli z hz
          obtain rfl : m = m' := by omega
          exact ih m (by omega) z hz'
        rw [List.length_map, hlist] at hs
        rw [hlist] at l3
        simp only [List.length_cons, List.length_append, List.length_nil, bnd] at hs l3 ⊢
        have : (xs.length + 1) * (bnd m + 1) ≤ 3 * (bnd m + 1) := Nat.mul_le_mul_right _ l3
        omega
    · have hp : stepL (91 :: (sepBy (v.list.map (printV n)) ++ [93])) (123 :: (sepBy (v.fields.map (fieldL n)) ++ [125])) v = 123 :: (sepBy (v.fields.map (fieldL n)) ++ [125]) := by simp [stepL, e]
      rw [hp]
      cases hlist : v.fields with
      | nil => simp [sepBy]; omega
      | cons x xs =>
        obtain ⟨_, m, rfl, _⟩ := hfi x (by rw [hlist]; simp)
        have hs := sepBy_le (4 + bnd m) (v.fields.map (fieldL (m + 1))) fun y hy => by
          obtain ⟨z, hz, rfl⟩ := List.mem_map.1 hy
          obtain ⟨⟨i, hi⟩, m', e', hz'⟩ := hfi z hz
          obtain rfl : m = m' := by omega
          have h1 := ih m (by omega) z.2 hz'
          show (quoteL z.1.data.toList ++ 58 :: printV (m + 1) z.2).length ≤ _
          rw [List.length_append, List.length_cons, hi, name_len]
          omega
        rw [List.length_map, hlist] at hs
        rw [hlist] at f4
        simp only [List.length_cons, List.length_append, List.length_nil, bnd] at hs f4 ⊢
        have : (xs.length + 1) * (4 + bnd m + 1) ≤ 4 * (4 + bnd m + 1) := Nat.mul_le_mul_right _ f4
        omega
theorem nice_fit : ∀ (n : Nat) (v : V), Nice n v → Fit n v
  | 0, v, h => ⟨h.parts.2.2.1, Nat.le_trans h.parts.2.2.2.size (by decide)⟩
  | n + 1, v, h => by
    refine ⟨h.parts.2.2.1, Nat.le_trans h.parts.2.2.2.size (by decide), fun x hx => nice_fit n x (h.2.2.2.2.2.2.2.1 x hx), fun p hp => ⟨?_, nice_fit n p.2 (h.2.2.2.2.2.2.2.2 p hp).2⟩⟩
    obtain ⟨i, hi⟩ := (h.2.2.2.2.2.2.2.2 p hp).1
    rw [hi]
    exact Nat.le_trans (nameAt_size i) (by decide)

theorem cmpL_map {α : Type} {f : α → α → Int} (g : α → α) : ∀ (xs : List α), (∀ x ∈ xs, f x (g x) = 0) → cmpL f xs (xs.map g) = 0
  | [], _ => rfl
  | x :: xs, h => by
    show (if f x (g x) = 0 then cmpL f xs (xs.map g) else f x (g x)) = 0
    rw [if_pos (h x (by simp))]
    exact cmpL_map g xs fun y hy => h y (by simp [hy])
theorem can_kind {n : Nat} {v : V} (h : Nice n v) : (canV (n + 1) v).kind = v.kind := by
  obtain ⟨k0, k1, _, _⟩ := h.parts
  obtain e | e | e | e | e | e : v.kind = 0 ∨ v.kind = 1 ∨ v.kind = 2 ∨ v.kind = 3 ∨ v.kind = 4 ∨ v.kind = 5 := by omega
  all_goals simp [canV, e, nulV, boolV, intV, textV, listV, objV]
theorem can_same : ∀ (k n : Nat) (v : V), Nice n v → cmpV k v (canV (n + 1) v) = 0
  | 0, _, _, _ => rfl
  | k + 1, n, v, h => by
    obtain ⟨_, _, _, hli, hfi⟩ := h.inner
    have hk := can_kind h
    show (if v.kind = (canV (n + 1) v).kind then _ else _) = (0 : Int)
    rw [if_pos hk.symm]
    obtain ⟨k0, k1, _, _⟩ := h.parts
    obtain e | e | e | e | e | e : v.kind = 0 ∨ v.kind = 1 ∨ v.kind = 2 ∨ v.kind = 3 ∨ v.kind = 4 ∨ v.kind = 5 := by omega
    · simp [e]
    · have : (canV (n + 1) v).num = v.num := by simp [canV, e, boolV]
      simp [e, this, cmpI]
    · have : (canV (n + 1) v).num = v.num := by simp [canV, e, intV]
      simp [e, this, cmpI]
    · have : (canV (n + 1) v).text = v.text := by simp [canV, e, textV]
      simp [e, this, good_cmpT.refl]
    · have : (canV (n + 1) v).list = v.list.map (canV n) := by simp [canV, e, listV]
      simp only [e, this]
      simp only [show ¬ ((4 : Int) = 1 ∨ (4 : Int) = 2) by decide, show ¬ (4 : Int) = 3 by decide, if_false, if_true]
      refine cmpL_map _ _ fun x hx => ?_
      obtain ⟨m, rfl, hm⟩ := hli x hx
      exact can_same k m x hm
    · have : (canV (n + 1) v).fields = v.fields.map fun p => (p.1, canV n p.2) := by simp [canV, e, objV]
      simp only [e, this]
      simp only [show ¬ ((5 : Int) = 1 ∨ (5 : Int) = 2) by decide, show ¬ (5 : Int) = 3 by decide, show ¬ (5 : Int) = 4 by decide, if_false, if_true]
      refine cmpL_map _ _ fun x hx => ?_
      obtain ⟨_, m, rfl, hm⟩ := hfi x hx
      show (if cmpT x.1 x.1 = 0 then cmpV k x.2 (canV (m + 1) x.2) else _) = 0
      rw [if_pos (good_cmpT.refl _)]
      exact can_same k m x.2 hm

theorem word_valid (i : Nat) : Lib.validD (wordAt i).data.toList = true := by
  rw [valid_iff_mend]; exact decide_eq_true (word_mend i)
theorem name_valid (i : Nat) : Lib.validD (nameAt i).data.toList = true := by
  rw [valid_iff_mend]; exact decide_eq_true (name_mend i)
theorem rises_map (g : V → V) : ∀ (fs : List (ByteArray × V)), Rises fs → Rises (fs.map fun p => (p.1, g p.2))
  | [], _ => trivial
  | [_], _ => trivial
  | _ :: q :: r, h => ⟨h.1, rises_map g (q :: r) h.2⟩

theorem can_fine : ∀ (n : Nat) (v : V), Nice n v → ∀ m, n ≤ m → Fit m (canV (n + 1) v) ∧ VOk m (canV (n + 1) v) ∧ printV (m + 1) (canV (n + 1) v) = printV (n + 1) v := by
  intro n
  induction n using Nat.strongRecOn with
  | _ n ih =>
    intro v hv m hm
    obtain ⟨k0, k1, hI, ⟨⟨w, hw⟩, hb⟩⟩ := hv.parts
    obtain ⟨_, _, hri, hli, hfi⟩ := hv.inner
    have hleaf : ∀ (u : V), u.list = [] → u.fields = [] → I64 u.num → u.text.size ≤ 1000000 → Fit m u := by
      intro u h1 h2 h3 h4
      cases m with
      | zero => exact ⟨h3, h4⟩
      | succ m => exact ⟨h3, h4, fun x hx => (by rw [h1] at hx; cases hx), fun x hx => (by rw [h2] at hx; cases hx)⟩
    have z64 : I64 0 := ⟨by decide, by decide⟩
    have hz : (⟨#[]⟩ : ByteArray).size ≤ 1000000 := by decide
    obtain e | e | e | e | e | e : v.kind = 0 ∨ v.kind = 1 ∨ v.kind = 2 ∨ v.kind = 3 ∨ v.kind = 4 ∨ v.kind = 5 := by omega
    · have hc : canV (n + 1) v = nulV := by simp [canV, e]
      rw [hc]
      refine ⟨hleaf _ rfl rfl z64 hz, by cases m <;> exact .inl rfl, ?_⟩
      rw [printV_step, printV_step]; simp [stepL, e, nulV]
    · have hc : canV (n + 1) v = boolV v.num := by simp [canV, e]
      rw [hc]
      refine ⟨hleaf _ rfl rfl hI hz, ?_, ?_⟩
      · rcases hb e with h | h
        · rw [h]; cases m <;> exact .inr (.inl (.inl rfl))
        · rw [h]; cases m <;> exact .inr (.inl (.inr rfl))
      · rw [printV_step, printV_step]; by_cases hn : v.num = 1 <;> simp [stepL, e, boolV, hn]
    · have hc : canV (n + 1) v = intV v.num := by simp [canV, e]
      rw [hc]
      refine ⟨hleaf _ rfl rfl hI hz, by cases m <;> exact .inr (.inr (.inl ⟨_, rfl⟩)), ?_⟩
      rw [printV_step, printV_step]; simp [stepL, e, intV]
    · have hc : canV (n + 1) v = textV v.text := by simp [canV, e]
      rw [hc]
      have hs : v.text.size ≤ 1000000 := by rw [hw]; exact Nat.le_trans (wordAt_size w) (by decide)
      refine ⟨hleaf _ rfl rfl z64 hs, ?_, ?_⟩
      · have hvd : Lib.validD v.text.data.toList = true := by rw [hw]; exact word_valid w
        cases m <;> exact .inr (.inr (.inr (.inl ⟨_, rfl, hs, hvd⟩)))
      · rw [printV_step, printV_step]; simp [stepL, e, textV]
    · have hc : canV (n + 1) v = listV (v.list.map (canV n)) := by simp [canV, e]
      rw [hc]
      cases m with
      | zero =>
        have hl : v.list = [] := by
          cases hx : v.list with
          | nil => rfl
          | cons x xs => obtain ⟨m', e', _⟩ := hli x (by rw [hx]; simp); omega
        rw [hl]
        refine ⟨hleaf _ rfl rfl z64 hz, .inr (.inr (.inr (.inr (.inl rfl)))), ?_⟩
        rw [printV_step, printV_step]; simp [stepL, e, listV, hl]
      | succ m =>
        have hin : ∀ x ∈ v.list, Fit m (canV n x) ∧ VOk m (canV n x) ∧ printV (m + 1) (canV n x) = printV n x := fun x hx => by
          obtain ⟨k, rfl, hk⟩ := hli x hx
          exact ih k (by omega) x hk m (by omega)
        refine ⟨⟨z64, hz, fun y hy => ?_, fun y hy => by cases hy⟩, .inr (.inr (.inr (.inr (.inl ⟨_, rfl, fun y hy => ?_⟩)))), ?_⟩
        · obtain ⟨x, hx, rfl⟩ := List.mem_map.1 hy
          exact (hin x hx).1
        · obtain ⟨x, hx, rfl⟩ := List.mem_map.1 hy
          exact (hin x hx).2.1
        · have hmap : (v.list.map (canV n)).map (printV (m + 1)) = v.list.map (printV n) := by
            rw [List.map_map]
            exact List.map_congr_left fun x hx => (hin x hx).2.2
          rw [printV_step, printV_step]
          simp only [stepL, e, listV, hmap]
          simp
    · have hc : canV (n + 1) v = objV (v.fields.map fun p => (p.1, canV n p.2)) := by simp [canV, e]
      rw [hc]
      cases m with
      | zero =>
        have hl : v.fields = [] := by
          cases hx : v.fields with
          | nil => rfl
          | cons x xs => obtain ⟨_, m', e', _⟩ := hfi x (by rw [hx]; simp); omega
        rw [hl]
        refine ⟨hleaf _ rfl rfl z64 hz, .inr (.inr (.inr (.inr (.inr rfl)))), ?_⟩
        rw [printV_step, printV_step]; simp [stepL, e, objV, hl]
      | succ m =>
        have hin : ∀ x ∈ v.fields, x.1.size ≤ 1000000 ∧ Lib.validD x.1.data.toList = true ∧ Fit m (canV n x.2) ∧ VOk m (canV n x.2) ∧ printV (m + 1) (canV n x.2) = printV n x.2 := fun x hx => by
          obtain ⟨⟨i, hi⟩, k, rfl, hk⟩ := hfi x hx
          refine ⟨by rw [hi]; exact Nat.le_trans (nameAt_size i) (by decide), by rw [hi]; exact name_valid i, ih k (by omega) x.2 hk m (by omega)⟩
        refine ⟨⟨z64, hz, fun y hy => (by cases hy), fun y hy => ?_⟩, .inr (.inr (.inr (.inr (.inr ⟨_, rfl, rises_map _ _ hri, fun y hy => ?_⟩)))), ?_⟩
        · obtain ⟨x, hx, rfl⟩ := List.mem_map.1 hy
          exact ⟨(hin x hx).1, (hin x hx).2.2.1⟩
        · obtain ⟨x, hx, rfl⟩ := List.mem_map.1 hy
          exact ⟨(hin x hx).1, (hin x hx).2.1, (hin x hx).2.2.2.1⟩
        · have hmap : (v.fields.map fun p => (p.1, canV n p.2)).map (fieldL (m + 1)) = v.fields.map (fieldL n) := by
            rw [List.map_map]
            refine List.map_congr_left fun x hx => ?_
            show quoteL x.1.data.toList ++ 58 :: printV (m + 1) (canV n x.2) = _
            rw [(hin x hx).2.2.2.2]; rfl
          rw [printV_step, printV_step]
          simp only [stepL, e, objV, hmap]
          simp

/-- what is printed is read as it was. -/
theorem parse_print (v : V) (h : Nice 3 v) : parseP (printV 4 v) = .ok (canV 4 v) := by
  have hl := print_len 3 v h
  have hv := value_print 3 v h 16 (by decide) [] ⟨by decide, by decide⟩
  rw [List.append_nil] at hv
  rw [parse_value (Nat.le_trans hl (by decide)), hv]
  rfl
end Go.Proofs.YtdcaohnaiepllaaGreatDoor
