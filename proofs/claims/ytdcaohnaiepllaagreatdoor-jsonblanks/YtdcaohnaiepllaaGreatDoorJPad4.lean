/-
  How long a value's text with blanks is, and that it is read: plain facts. No program here.
-/
import Derived.Test.YtdcaohnaiepllaaGreatDoorJPad3
namespace Go.Proofs.YtdcaohnaiepllaaGreatDoor

/-- how many blanks are put. -/
def cnt : Bool → List UInt8 → Nat
  | _, [] => 0
  | q, c :: t => (if !qNext q c && opens c then 1 else 0) + cnt (qNext q c) t
theorem cnt_append : ∀ (a b : List UInt8) (q : Bool), cnt q (a ++ b) = cnt q a + cnt (qAll q a) b
  | [], b, q => by show cnt q b = 0 + cnt q b; omega
  | c :: t, b, q => by
    show _ + cnt (qNext q c) (t ++ b) = _ + cnt (qNext q c) t + cnt (qAll (qNext q c) t) b
    rw [cnt_append t b (qNext q c)]
    omega
theorem pad_cnt (pd : Nat → List UInt8) (h : ∀ i, (pd i).length ≤ 4) : ∀ (l : List UInt8) (i : Nat) (q : Bool), (padL pd i q l).length ≤ l.length + 4 * cnt q l
  | [], _, _ => Nat.zero_le _
  | c :: t, i, q => by
    have ih := pad_cnt pd h t (i + 1) (qNext q c)
    have h4 := h i
    show (c :: ((if !qNext q c && opens c then pd i else []) ++ padL pd (i + 1) (qNext q c) t)).length ≤ (t.length + 1) + 4 * ((if !qNext q c && opens c then 1 else 0) + cnt (qNext q c) t)
    rw [List.length_cons, List.length_append]
    split
    · omega
    · rw [List.length_nil]; omega
theorem cnt_pad : ∀ (l : List UInt8) (i : Nat) (q : Bool), (padL (fun _ => [0]) i q l).length = l.length + cnt q l
  | [], _, _ => rfl
  | c :: t, i, q => by
    have ih := cnt_pad t (i + 1) (qNext q c)
    show (c :: ((if !qNext q c && opens c then [0] else []) ++ padL (fun _ => [0]) (i + 1) (qNext q c) t)).length = (t.length + 1) + ((if !qNext q c && opens c then 1 else 0) + cnt (qNext q c) t)
    rw [List.length_cons, List.length_append]
    split
    · rw [List.length_singleton]; omega
    · rw [List.length_nil]; omega
theorem cnt_zero {l : List UInt8} (h : padL (fun _ => [0]) 0 false l = l) : cnt false l = 0 := by
  have := cnt_pad l 0 false
  rw [h] at this
  omega
theorem cnt_sep (B : Nat) : ∀ (xs : List (List UInt8)), (∀ x ∈ xs, qAll false x = false ∧ cnt false x ≤ B) → cnt false (sepBy xs) ≤ xs.length * (B + 1)
  | [], _ => by simp [sepBy, cnt]
  | [x], h => by
    have := (h x (by simp)).2
    simp only [sepBy, List.length_singleton]; omega
  | x :: y :: r, h => by
    obtain ⟨h0, h1⟩ := h x (by simp)
    have ih := cnt_sep B (y :: r) fun z hz => h z (by simp [hz])
    show cnt false (x ++ 44 :: sepBy (y :: r)) ≤ _
    rw [cnt_append, h0]
    show _ + (1 + cnt false (sepBy (y :: r))) ≤ _
    have e : (x :: y :: r).length * (B + 1) = (y :: r).length * (B + 1) + (B + 1) := by rw [List.length_cons, Nat.succ_mul]
    omega
def cbnd : Nat → Nat
  | 0 => 1
  | n + 1 => 1 + 4 * (2 + cbnd n)
theorem cbnd_ge : ∀ n, 1 ≤ cbnd n
  | 0 => Nat.le_refl _
  | n + 1 => by simp only [cbnd]; omega
theorem cnt_box (a z : UInt8) (S : List UInt8) (ha : a = 91 ∨ a = 123) (hz : z = 93 ∨ z = 125) (hS : qAll false S = false) : cnt false (a :: (S ++ [z])) = 1 + cnt false S := by
  have h1 : cnt false (S ++ [z]) = cnt false S := by
    rw [cnt_append, hS]
    rcases hz with rfl | rfl <;> rfl
  rcases ha with rfl | rfl
  · show 1 + cnt false (S ++ [z]) = _
    rw [h1]
  · show 1 + cnt false (S ++ [z]) = _
    rw [h1]
theorem bls_nil : ∀ _ : Nat, Bls ([] : List UInt8) := fun _ _ h => by cases h
theorem cnt_print : ∀ (n : Nat) (v : V), Nice n v → cnt false (printV (n + 1) v) ≤ cbnd n := by
  intro n
  induction n using Nat.strongRecOn with
  | _ n ih =>
    intro v hv
    obtain ⟨k0, k1, ⟨i0, i1⟩, ⟨⟨w, hw⟩, hb⟩⟩ := hv.parts
    obtain ⟨l3, f4, hri, hli, hfi⟩ := hv.inner
    have hge := cbnd_ge n
    obtain e | e | e | e | e | e : v.kind = 0 ∨ v.kind = 1 ∨ v.kind = 2 ∨ v.kind = 3 ∨ v.kind = 4 ∨ v.kind = 5 := by omega
    · have hp : printV (n + 1) v = wNull := by rw [printV_step]; simp [stepL, e]
      rw [hp]; exact Nat.le_trans (by decide) hge
    · have hp : printV (n + 1) v = (if v.num = 1 then wTrue else wFalse) := by rw [printV_step]; simp [stepL, e]
      rw [hp]
      split <;> exact Nat.le_trans (by decide) hge
    · have hp : printV (n + 1) v = Lib.itoa v.num := by rw [printV_step]; simp [stepL, e]
      rw [hp, cnt_zero (pad_still _ _ 0 false (itoa_still _)).1]; omega
    · have hp : printV (n + 1) v = quoteL v.text.data.toList := by rw [printV_step]; simp [stepL, e]
      rw [hp, cnt_zero (pad_quote _ _ 0 (by rw [hw]; exact word_quo w)).1]; omega
    · have hp : printV (n + 1) v = 91 :: (sepBy (v.list.map (printV n)) ++ [93]) := by rw [printV_step]; simp [stepL, e]
      have hq : ∀ x ∈ v.list.map (printV n), qAll false x = false := fun x hx => by
        obtain ⟨y, hy, rfl⟩ := List.mem_map.1 hx
        obtain ⟨k, rfl, hk⟩ := hli y hy
        exact (value_pad (fun _ => []) bls_nil k y hk).1
      rw [hp, cnt_box 91 93 _ (by simp) (by simp) (q_sep _ hq)]
      cases hlist : v.list with
      | nil => show 1 + 0 ≤ _; omega
      | cons x xs =>
        obtain ⟨m, rfl, _⟩ := hli x (by rw [hlist]; simp)
        have hs := cnt_sep (cbnd m) (v.list.map (printV (m + 1))) fun y hy => ⟨hq y hy, by
          obtain ⟨z, hz, rfl⟩ := List.mem_map.1 hy
          obtain ⟨m', e', hz'⟩ := hli z hz
          obtain rfl : m = m' := by omega
          exact ih m (by omega) z hz'⟩
        rw [List.length_map, hlist] at hs
        rw [hlist] at l3
        simp only [List.length_cons, cbnd] at hs l3 ⊢
        have : (xs.length + 1) * (cbnd m + 1) ≤ 3 * (cbnd m + 1) := Nat.mul_le_mul_right _ l3
        omega
    · have hp : printV (n + 1) v = 123 :: (sepBy (v.fields.map (fieldL n)) ++ [125]) := by rw [printV_step]; simp [stepL, e]
      have hq : ∀ x ∈ v.fields.map (fieldL n), qAll false x = false := fun x hx => by
        obtain ⟨y, hy, rfl⟩ := List.mem_map.1 hx
        obtain ⟨⟨j, hj⟩, k, rfl, hk⟩ := hfi y hy
        show qAll false (quoteL y.1.data.toList ++ 58 :: printV (k + 1) y.2) = false
        rw [qAll_append, (pad_quote (fun _ => []) _ 0 (by rw [hj]; exact name_quo j)).2]
        exact (value_pad (fun _ => []) bls_nil k y.2 hk).1
      rw [hp, cnt_box 123 125 _ (by simp) (by simp) (q_sep _ hq)]
      cases hlist : v.fields with
      | nil => show 1 + 0 ≤ _; omega
      | cons x xs =>
        obtain ⟨_, m, rfl, _⟩ := hfi x (by rw [hlist]; simp)
        have hs := cnt_sep (1 + cbnd m) (v.fields.map (fieldL (m + 1))) fun y hy => ⟨hq y hy, by
          obtain ⟨z, hz, rfl⟩ := List.mem_map.1 hy
          obtain ⟨⟨i, hi⟩, m', e', hz'⟩ := hfi z hz
          obtain rfl : m = m' := by omega
          have h1 := ih m (by omega) z.2 hz'
          have hpq := fun pd => pad_quote pd z.1.data.toList 0 (by rw [hi]; exact name_quo i)
          show cnt false (quoteL z.1.data.toList ++ 58 :: printV (m + 1) z.2) ≤ _
          rw [cnt_append, (hpq (fun _ => [])).2, cnt_zero (hpq _).1]
          show 0 + (1 + cnt false (printV (m + 1) z.2)) ≤ _
          omega⟩
        rw [List.length_map, hlist] at hs
        rw [hlist] at f4
        simp only [List.length_cons, cbnd] at hs f4 ⊢
        have : (xs.length + 1) * (1 + cbnd m + 1) ≤ 4 * (1 + cbnd m + 1) := Nat.mul_le_mul_right _ f4
        omega

/-- blanks make no difference. -/
theorem parse_pad (pd : Nat → List UInt8) (hpd : ∀ i, Bls (pd i)) (h4 : ∀ i, (pd i).length ≤ 4) (v : V) (h : Nice 3 v) : parseP ([10, 32] ++ (padL pd 0 false (printV 4 v) ++ [9])) = .ok (canV 4 v) := by
  have hl : (printV 4 v).length ≤ bnd 3 := print_len 3 v h
  have hc : cnt false (printV 4 v) ≤ cbnd 3 := cnt_print 3 v h
  have hp := pad_cnt pd h4 (printV 4 v) 0 false
  have hv := (value_pad pd hpd 3 v h).2 16 0 (by decide) [9] ⟨by decide, by decide⟩
  have hlen : ([10, 32] ++ (padL pd 0 false (printV 4 v) ++ [9])).length ≤ 4096 := by
    have e1 : bnd 3 = 1806 := by decide
    have e2 : cbnd 3 = 253 := by decide
    rw [e1] at hl
    rw [e2] at hc
    simp only [List.length_append, List.length_cons, List.length_nil]
    omega
  rw [parse_value hlen, value_bls 16 [10, 32] _ (by unfold Bls; decide), hv]
  rfl
theorem pad_size (pd : Nat → List UInt8) (h4 : ∀ i, (pd i).length ≤ 4) (v : V) (h : Nice 3 v) : (padL pd 0 false (printV 4 v)).length ≤ 2818 := by
  have hl : (printV 4 v).length ≤ bnd 3 := print_len 3 v h
  have hc : cnt false (printV 4 v) ≤ cbnd 3 := cnt_print 3 v h
  have hp := pad_cnt pd h4 (printV 4 v) 0 false
  have e1 : bnd 3 = 1806 := by decide
  have e2 : cbnd 3 = 253 := by decide
  rw [e1] at hl
  rw [e2] at hc
  omega

theorem esc_still : ∀ (l : List UInt8), (∀ c ∈ l, c ≠ 92) → Esc l = true
  | [], _ => rfl
  | [c], h => by
    have := h c (by simp)
    show (c != 92) = true
    simpa using this
  | c :: d :: t, h => by
    have h1 := h c (by simp)
    show ((c != 92 || d == 117) && Esc (d :: t)) = true
    rw [esc_still (d :: t) (fun x hx => h x (by simp [hx]))]
    simp [h1]
theorem esc_word (i : Nat) : Esc (quoteL (wordAt i).data.toList) = true := by
  unfold wordAt
  split <;> decide +kernel
theorem esc_name (i : Nat) : Esc (quoteL (nameAt i).data.toList) = true := by
  unfold nameAt
  split <;> decide +kernel
theorem esc_sep : ∀ (xs : List (List UInt8)), (∀ x ∈ xs, Esc x = true) → Esc (sepBy xs) = true
  | [], _ => rfl
  | [x], h => h x (by simp)
  | x :: y :: r, h => by
    have h2 := esc_append [44] (sepBy (y :: r)) rfl (esc_sep (y :: r) fun z hz => h z (by simp [hz]))
    exact esc_append x (44 :: sepBy (y :: r)) (h x (by simp)) h2
theorem esc_box (a z : UInt8) (S : List UInt8) (ha : (a != 92) = true) (hz : (z != 92) = true) (hS : Esc S = true) : Esc (a :: (S ++ [z])) = true :=
  esc_append [a] (S ++ [z]) ha (esc_append S [z] hS hz)
theorem esc_itoa (n : Int) : Esc (Lib.itoa n) = true := by
  refine esc_still _ ?_
  have hd : ∀ c : UInt8, isDg c → c ≠ 92 := by
    intro c hc e
    have h1 : 48 ≤ c.toNat ∧ c.toNat ≤ 57 := hc
    rw [e] at h1
    revert h1
    decide
  rcases itoa_cases n with ⟨_, e⟩ | ⟨_, e⟩
  · rw [e]
    intro c hc
    rcases List.mem_cons.1 hc with rfl | h
    · decide
    · exact hd c (dec_all _ c h)
  · rw [e]
    intro c hc
    exact hd c (dec_all _ c hc)
theorem esc_print : ∀ (n : Nat) (v : V), Nice n v → Esc (printV (n + 1) v) = true := by
  intro n
  induction n using Nat.strongRecOn with
  | _ n ih =>
    intro v hv
    obtain ⟨k0, k1, ⟨i0, i1⟩, ⟨⟨w, hw⟩, hb⟩⟩ := hv.parts
    obtain ⟨l3, f4, hri, hli, hfi⟩ := hv.inner
    obtain e | e | e | e | e | e : v.kind = 0 ∨ v.kind = 1 ∨ v.kind = 2 ∨ v.kind = 3 ∨ v.kind = 4 ∨ v.kind = 5 := by omega
    · have hp : printV (n + 1) v = wNull := by rw [printV_step]; simp [stepL, e]
      rw [hp]; decide
    · have hp : printV (n + 1) v = (if v.num = 1 then wTrue else wFalse) := by rw [printV_step]; simp [stepL, e]
      rw [hp]
      split <;> decide
    · have hp : printV (n + 1) v = Lib.itoa v.num := by rw [printV_step]; simp [stepL, e]
      rw [hp]; exact esc_itoa _
    · have hp : printV (n + 1) v = quoteL v.text.data.toList := by rw [printV_step]; simp [stepL, e]
      rw [hp, hw]; exact esc_word w
    · have hp : printV (n + 1) v = 91 :: (sepBy (v.list.map (printV n)) ++ [93]) := by rw [printV_step]; simp [stepL, e]
      rw [hp]
      refine esc_box 91 93 _ rfl rfl (esc_sep _ fun x hx => ?_)
      obtain ⟨y, hy, rfl⟩ := List.mem_map.1 hx
      obtain ⟨k, rfl, hk⟩ := hli y hy
      exact ih k (by omega) y hk
    · have hp : printV (n + 1) v = 123 :: (sepBy (v.fields.map (fieldL n)) ++ [125]) := by rw [printV_step]; simp [stepL, e]
      rw [hp]
      refine esc_box 123 125 _ rfl rfl (esc_sep _ fun x hx => ?_)
      obtain ⟨y, hy, rfl⟩ := List.mem_map.1 hx
      obtain ⟨⟨j, hj⟩, k, rfl, hk⟩ := hfi y hy
      show Esc (quoteL y.1.data.toList ++ ([58] ++ printV (k + 1) y.2)) = true
      exact esc_append _ _ (by rw [hj]; exact esc_name j) (esc_append _ _ rfl (ih k (by omega) y.2 hk))
/-- ahead of a quote stands no backslash. -/
theorem esc_at : ∀ (l : List UInt8) (i : Nat), Esc l = true → l[i + 1]? = some 34 → l[i]? ≠ some 92
  | [], _, _, h => by simp at h
  | [c], i, _, h => by simp at h
  | c :: d :: t, 0, he, h => by
    have he' : ((c != 92 || d == 117) && Esc (d :: t)) = true := he
    rw [Bool.and_eq_true] at he'
    have hd : d = 34 := by simpa using h
    subst hd
    intro hc
    have hc' : c = 92 := by simpa using hc
    subst hc'
    exact absurd he'.1 (by decide)
  | c :: d :: t, i + 1, he, h => by
    have he' : ((c != 92 || d == 117) && Esc (d :: t)) = true := he
    rw [Bool.and_eq_true] at he'
    exact esc_at (d :: t) i he'.2 (by simpa using h)
end Go.Proofs.YtdcaohnaiepllaaGreatDoor
