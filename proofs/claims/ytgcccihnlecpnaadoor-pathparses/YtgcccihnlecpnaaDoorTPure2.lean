/-
  Texts in quotes, as plain functions of bytes: reading; what is written is read as it was, cut off it is none, it is UTF-8. No conditions beyond those stated.
-/
import Derived.Test.YtgcccihnlecpnaaDoorTPure
namespace Go.Proofs.YtgcccihnlecpnaaDoor
open Go.Lib

def rdN : Nat → List UInt8 → List UInt8 → Nat → Option (List UInt8 × Nat)
  | 0, _, _, _ => none
  | _ + 1, [], _, _ => none
  | n + 1, b :: t, out, k =>
    if b.toNat = 34 then some (out, k + 1)
    else match one (b :: t) with
      | none => none
      | some cw => rdN n ((b :: t).drop cw.2) (out ++ encodeRune (cw.1 : Int)) (k + cw.2)
/-- what is read of bytes behind the first quote: what was read so far, the place. -/
def rd (l out : List UInt8) (k : Nat) : Option (List UInt8 × Nat) := rdN l.length l out k
def readL : List UInt8 → Option (List UInt8 × Nat)
  | [] => none
  | b :: t => if b.toNat = 34 then rd t [] 1 else none

theorem rdN_nil : ∀ n out k, rdN n [] out k = none
  | 0, _, _ => rfl
  | _ + 1, _, _ => rfl
theorem rdN_fuel : ∀ (n m : Nat) (l out : List UInt8) (k : Nat), l.length ≤ n → l.length ≤ m → rdN n l out k = rdN m l out k
  | 0, m, l, out, k, hn, _ => by
    have : l = [] := List.eq_nil_of_length_eq_zero (by omega)
    subst this
    rw [rdN_nil, rdN_nil]
  | n + 1, 0, l, out, k, _, hm => by
    have : l = [] := List.eq_nil_of_length_eq_zero (by omega)
    subst this
    rw [rdN_nil, rdN_nil]
  | n + 1, m + 1, [], out, k, _, _ => rfl
  | n + 1, m + 1, b :: t, out, k, hn, hm => by
    simp only [rdN]
    split
    · rfl
    · cases h : one (b :: t) with
      | none => rfl
      | some cw =>
        have := (one_pos (c := cw.1) (n := cw.2) h).1
        simp only [List.length_cons] at hn hm
        exact rdN_fuel n m _ _ _ (by rw [List.length_drop, List.length_cons]; omega) (by rw [List.length_drop, List.length_cons]; omega)
theorem rd_nil (out : List UInt8) (k : Nat) : rd [] out k = none := rfl
theorem rd_quote (b : UInt8) (t out : List UInt8) (k : Nat) (h : b.toNat = 34) : rd (b :: t) out k = some (out, k + 1) := by
  show rdN (t.length + 1) _ _ _ = _
  simp [rdN, h]
theorem rd_none (b : UInt8) (t out : List UInt8) (k : Nat) (h : ¬ b.toNat = 34) (h1 : one (b :: t) = none) : rd (b :: t) out k = none := by
  show rdN (t.length + 1) _ _ _ = _
  simp [rdN, h, h1]
theorem rd_some (b : UInt8) (t out : List UInt8) (k c w : Nat) (h : ¬ b.toNat = 34) (h1 : one (b :: t) = some (c, w)) : rd (b :: t) out k = rd ((b :: t).drop w) (out ++ encodeRune (c : Int)) (k + w) := by
  show rdN (t.length + 1) _ _ _ = _
  have := (one_pos h1).1
  simp only [rdN, h, if_false, h1]
  exact rdN_fuel _ _ _ _ _ (by rw [List.length_drop, List.length_cons]; omega) (Nat.le_refl _)

theorem decE (b : UInt8) (t : List UInt8) (h : b.toNat < 128) : decodeL (b :: t) = (b.toNat, 1) := decodeL_ascii b t h
theorem nbrk_ascii (b : UInt8) (t : List UInt8) (h : b.toNat < 128) : ¬ brk (b :: t) := by
  rw [brk, decE b t h]; simp only; omega

theorem one_back (r : List UInt8) (x : UInt8) (c n : Nat) (h : escL (92 :: x :: r) = some (c, n)) : one (92 :: x :: r) = some (c, n) := by
  have e := decE 92 (x :: r) (by decide)
  unfold one
  rw [if_neg (by rw [not_or]; exact ⟨by rw [e]; decide, nbrk_ascii _ _ (by decide)⟩), if_pos (by rw [e]; rfl), h]
theorem one_plain (l : List UInt8) (h1 : ¬ (decodeL l).1 < 32) (h2 : ¬ brk l) (h3 : ¬ (decodeL l).1 = 92) : one l = some (decodeL l) := by
  unfold one
  rw [if_neg (by rw [not_or]; exact ⟨h1, h2⟩), if_neg h3]

theorem hexv_hexd : ∀ n, n < 16 → hexv (hexd n).toNat = some n := by decide
theorem hexd_ascii : ∀ n, n < 16 → (hexd n).toNat < 128 := by decide
theorem v48 : hexv (48 : UInt8).toNat = some 0 := by decide
theorem w102 : hexv 102 = some 15 := by decide
theorem w100 : hexv 100 = some 13 := by decide
theorem v102 : hexv (102 : UInt8).toNat = some 15 := by decide
theorem v100 : hexv (100 : UInt8).toNat = some 13 := by decide
theorem ofNat_toNat (c : Nat) (h : c < 256) : (UInt8.ofNat c).toNat = c := by simp; omega

/-- the four forms of what is written of a character. -/
theorem esc_forms (l : List UInt8) :
    (brk l ∧ esc l = [92, 117, 102, 102, 102, 100]) ∨
    (∃ x : UInt8, esc l = [92, x] ∧ x.toNat < 128 ∧ ¬ x.toNat = 117 ∧ ∀ r, escL (92 :: x :: r) = some ((decodeL l).1, 2)) ∨
    ((decodeL l).1 < 32 ∧ esc l = [92, 117, 48, 48, hexd ((decodeL l).1 / 16), hexd ((decodeL l).1 % 16)]) ∨
    (¬ brk l ∧ ¬ (decodeL l).1 < 32 ∧ ¬ (decodeL l).1 = 34 ∧ ¬ (decodeL l).1 = 92 ∧ esc l = l.take (decodeL l).2) := by
  unfold esc
  by_cases hb : brk l
  · exact .inl ⟨hb, if_pos hb⟩
  · refine .inr ?_
    rw [if_neg hb]
    by_cases h8 : (decodeL l).1 = 8
    · rw [if_pos h8, h8]; exact .inl ⟨98, rfl, by decide, by decide, fun r => by simp [escL]⟩
    · rw [if_neg h8]
      by_cases h9 : (decodeL l).1 = 9
      · rw [if_pos h9, h9]; exact .inl ⟨116, rfl, by decide, by decide, fun r => by simp [escL]⟩
      · rw [if_neg h9]
        by_cases h10 : (decodeL l).1 = 10
        · rw [if_pos h10, h10]; exact .inl ⟨110, rfl, by decide, by decide, fun r => by simp [escL]⟩
        · rw [if_neg h10]
          by_cases h12 : (decodeL l).1 = 12
          · rw [if_pos h12, h12]; exact .inl ⟨102, rfl, by decide, by decide, fun r => by simp [escL]⟩
          · rw [if_neg h12]
            by_cases h13 : (decodeL l).1 = 13
            · rw [if_pos h13, h13]; exact .inl ⟨114, rfl, by decide, by decide, fun r => by simp [escL]⟩
            · rw [if_neg h13]
              by_cases h32 : (decodeL l).1 < 32
              · rw [if_pos h32]
                exact .inr (.inl ⟨h32, rfl⟩)
              · rw [if_neg h32]
                by_cases hq : (decodeL l).1 = 34 ∨ (decodeL l).1 = 92
                · rw [if_pos hq]
                  generalize (decodeL l).1 = c at *
                  have e : (UInt8.ofNat c).toNat = c := ofNat_toNat c (by omega)
                  refine .inl ⟨UInt8.ofNat c, rfl, by rw [e]; omega, by rw [e]; omega, fun r => ?_⟩
                  simp only [escL, e]
                  rcases hq with rfl | rfl <;> simp
                · rw [if_neg hq]
                  exact .inr (.inr ⟨hb, h32, by omega, by omega, rfl⟩)

theorem unitL_hexd (c : Nat) (h : c < 256) (r : List UInt8) : unitL (48 :: 48 :: hexd (c / 16) :: hexd (c % 16) :: r) = some c := by
  have e1 := hexv_hexd (c / 16) (by omega)
  have e2 := hexv_hexd (c % 16) (by omega)
  simp only [unitL, v48, e1, e2]
  congr 1
  omega

/-- what is written of a character is read as it. -/
theorem one_esc (l r : List UInt8) (hne : l ≠ []) : one (esc l ++ r) = some ((decodeL l).1, (esc l).length) := by
  rcases esc_forms l with ⟨hb, e⟩ | ⟨x, e, _, _, h⟩ | ⟨h, e⟩ | ⟨hb, h32, _, h92, e⟩
  · rw [e, hb.1]
    refine one_back _ _ _ _ ?_
    simp [escL, unitsL, unitU, unitL, w102, w100]
  · rw [e]
    exact one_back _ _ _ _ (h r)
  · rw [e]
    generalize (decodeL l).1 = c at *
    refine one_back _ _ _ _ ?_
    have hu := unitL_hexd c (by omega) r
    have hU : unitU (92 :: 117 :: 48 :: 48 :: hexd (c / 16) :: hexd (c % 16) :: r) = some c := by
      simp only [unitU, hu]; exact if_pos (by decide)
    have h1 : escL (92 :: 117 :: 48 :: 48 :: hexd (c / 16) :: hexd (c % 16) :: r) = unitsL (92 :: 117 :: 48 :: 48 :: hexd (c / 16) :: hexd (c % 16) :: r) := by
      rw [escL]; exact if_pos (by decide)
    show escL (92 :: 117 :: 48 :: 48 :: hexd (c / 16) :: hexd (c % 16) :: r) = _
    rw [h1]
    unfold unitsL
    rw [hU]
    simp only
    rw [if_neg (by omega), if_pos (.inl (by omega))]
    rfl
  · rw [e]
    have ed := dec_app l r hne hb
    have hle := decodeL_le l hne
    rw [one_plain _ (by rw [ed]; exact h32) (by rw [brk, ed]; exact hb) (by rw [ed]; exact h92), ed, List.length_take, Nat.min_eq_left hle]

theorem toNat_inj {a b : UInt8} (h : a.toNat = b.toNat) : a = b := UInt8.toNat_inj.1 h

/-- it begins with no quote. -/
theorem esc_head (l : List UInt8) (hne : l ≠ []) : ∃ b t, esc l = b :: t ∧ ¬ b.toNat = 34 := by
  rcases esc_forms l with ⟨hb, e⟩ | ⟨x, e, _, _, h⟩ | ⟨h, e⟩ | ⟨hb, h32, h34, h92, e⟩
  · exact ⟨_, _, e, by decide⟩
  · exact ⟨_, _, e, by decide⟩
  · exact ⟨_, _, e, by decide⟩
  · have hw := decodeL_width l
    obtain ⟨b, t, rfl⟩ : ∃ b t, l = b :: t := by
      cases l with
      | nil => exact absurd rfl hne
      | cons b t => exact ⟨b, t, rfl⟩
    obtain ⟨n, hn⟩ : ∃ n, (decodeL (b :: t)).2 = n + 1 := ⟨_, (Nat.succ_pred_eq_of_pos hw).symm⟩
    refine ⟨b, t.take n, by rw [e, hn]; rfl, fun h => h34 ?_⟩
    rw [decE b t (by omega)]
    exact h

/-- cut off it is none. -/
theorem one_short (l : List UInt8) (hne : l ≠ []) (k : Nat) (h0 : 0 < k) (hk : k < (esc l).length) : one ((esc l).take k) = none := by
  have key : ∀ x : List UInt8, escL (92 :: x) = none → one (92 :: x) = none := by
    intro x h
    have e := decE 92 x (by decide)
    unfold one
    rw [if_neg (by rw [not_or]; exact ⟨by rw [e]; decide, nbrk_ascii _ _ (by decide)⟩), if_pos (by rw [e]; rfl), h]
  rcases esc_forms l with ⟨hb, e⟩ | ⟨x, e, _, _, h⟩ | ⟨h, e⟩ | ⟨hb, h32, _, h92, e⟩
  · rw [e] at hk ⊢
    match k, h0, hk with
    | 1, _, _ => exact key _ rfl
    | 2, _, _ => exact key _ (by simp [escL, unitsL, unitU, unitL])
    | 3, _, _ => exact key _ (by simp [escL, unitsL, unitU, unitL])
    | 4, _, _ => exact key _ (by simp [escL, unitsL, unitU, unitL])
    | 5, _, _ => exact key _ (by simp [escL, unitsL, unitU, unitL])
  · rw [e] at hk ⊢
    match k, h0, hk with
    | 1, _, _ => exact key _ rfl
  · rw [e] at hk ⊢
    match k, h0, hk with
    | 1, _, _ => exact key _ rfl
    | 2, _, _ => exact key _ (by simp [escL, unitsL, unitU, unitL])
    | 3, _, _ => exact key _ (by simp [escL, unitsL, unitU, unitL])
    | 4, _, _ => exact key _ (by simp [escL, unitsL, unitU, unitL])
    | 5, _, _ => exact key _ (by simp [escL, unitsL, unitU, unitL])
  · rw [e, List.length_take] at hk
    rw [e, List.take_take, Nat.min_eq_left (by omega)]
    have ed := dec_short l hne hb k h0 (by omega)
    unfold one
    rw [if_pos (.inr (by rw [brk, ed]; exact ⟨rfl, rfl⟩))]

def mend (l : List UInt8) : List UInt8 := mapD (fun x => x) l
theorem mend_nil : mend [] = [] := rfl
theorem mend_step (l : List UInt8) (hne : l ≠ []) : mend l = encodeRune ((decodeL l).1 : Int) ++ mend (l.drop (decodeL l).2) := by
  unfold mend
  rw [mapD_step _ l hne, if_pos (by omega)]

theorem drop_lt (l : List UInt8) (hne : l ≠ []) : (l.drop (decodeL l).2).length < l.length := by
  have hw := decodeL_width l
  have hl : 0 < l.length := List.length_pos_iff.2 hne
  rw [List.length_drop]; omega

/-- what stands in quotes is read as it was. -/
theorem rd_quo (r : List UInt8) : ∀ (n : Nat) (l : List UInt8), l.length ≤ n → ∀ (out : List UInt8) (k : Nat), rd (quo l ++ 34 :: r) out k = some (out ++ mend l, k + (quo l).length + 1)
  | n, l, hn, out, k => by
    by_cases hne : l = []
    · subst hne
      rw [quo_nil, mend_nil, List.append_nil]
      exact rd_quote _ _ _ _ (by decide)
    · have hlt := drop_lt l hne
      obtain ⟨m, rfl⟩ : ∃ m, n = m + 1 := ⟨n - 1, by omega⟩
      rw [quo_step l hne, mend_step l hne, List.append_assoc]
      have h1 := one_esc l (quo (l.drop (decodeL l).2) ++ 34 :: r) hne
      obtain ⟨b, t, e, hb⟩ := esc_head l hne
      rw [e] at h1 ⊢
      rw [List.cons_append] at h1
      rw [List.cons_append, rd_some b _ out k _ _ hb h1, ← List.cons_append, List.drop_left, rd_quo r m _ (by omega)]
      simp [List.append_assoc]
      omega
theorem readL_quote (l r : List UInt8) : readL (quoteL l ++ r) = some (mend l, (quoteL l).length) := by
  unfold quoteL
  show (if (34 : UInt8).toNat = 34 then rd (quo l ++ [34] ++ r) [] 1 else none) = _
  rw [if_pos (by decide), List.append_assoc]
  show rd (quo l ++ 34 :: r) [] 1 = _
  rw [rd_quo r _ l (Nat.le_refl _)]
  simp
  omega

/-- cut off anywhere it is none. -/
theorem rd_short : ∀ (n : Nat) (l : List UInt8), l.length ≤ n → ∀ (j : Nat) (out : List UInt8) (k : Nat), rd ((quo l).take j) out k = none
  | n, l, hn, j, out, k => by
    by_cases hne : l = []
    · subst hne
      rw [quo_nil, List.take_nil, rd_nil]
    · have hlt := drop_lt l hne
      obtain ⟨m, rfl⟩ : ∃ m, n = m + 1 := ⟨n - 1, by omega⟩
      by_cases h0 : j = 0
      · subst h0; rw [List.take_zero, rd_nil]
      · rw [quo_step l hne]
        obtain ⟨b, t, e, hb⟩ := esc_head l hne
        by_cases hj : j < (esc l).length
        · have h1 := one_short l hne j (by omega) hj
          rw [List.take_append_of_le_length (by omega)]
          obtain ⟨i, rfl⟩ : ∃ i, j = i + 1 := ⟨j - 1, by omega⟩
          rw [e, List.take_succ_cons] at h1 ⊢
          exact rd_none b _ out k hb h1
        · rw [List.take_append, List.take_of_length_le (by omega)]
          have h1 := one_esc l ((quo (l.drop (decodeL l).2)).take (j - (esc l).length)) hne
          rw [e] at h1 ⊢
          rw [List.cons_append] at h1 ⊢
          rw [rd_some b _ out k _ _ hb h1, ← List.cons_append, List.drop_left]
          exact rd_short m _ (by omega) _ _ _
theorem readL_short (l : List UInt8) (j : Nat) (hj : j < (quoteL l).length) : readL ((quoteL l).take j) = none := by
  unfold quoteL at hj ⊢
  cases j with
  | zero => rfl
  | succ j =>
    rw [List.take_succ_cons]
    show (if (34 : UInt8).toNat = 34 then rd ((quo l ++ [34]).take j) [] 1 else none) = _
    rw [if_pos (by decide), List.take_append_of_le_length (by simp at hj; omega)]
    exact rd_short _ l (Nat.le_refl _) j _ _

/-- it is UTF-8. -/
theorem valid_app (l r : List UInt8) (hne : l ≠ []) (hb : ¬ brk l) : validD (l.take (decodeL l).2 ++ r) = validD r := by
  have e := dec_app l r hne hb
  have hle := decodeL_le l hne
  have hw := decodeL_width l
  have hl : (l.take (decodeL l).2).length = (decodeL l).2 := by rw [List.length_take]; omega
  have hne' : l.take (decodeL l).2 ++ r ≠ [] := by
    intro h
    have := congrArg List.length h
    rw [List.length_append, hl, List.length_nil] at this
    omega
  rw [validD_step _ hne', if_neg (by rw [e]; exact hb), e]
  generalize l.take (decodeL l).2 = x at *
  rw [← hl, List.drop_left]
theorem valid_esc (l r : List UInt8) (hne : l ≠ []) : validD (esc l ++ r) = validD r := by
  rcases esc_forms l with ⟨hb, e⟩ | ⟨x, e, hx, _, h⟩ | ⟨h, e⟩ | ⟨hb, h32, _, h92, e⟩
  · rw [e]
    simp only [List.cons_append, List.nil_append]
    rw [validD_cons _ _ (by decide), validD_cons _ _ (by decide), validD_cons _ _ (by decide), validD_cons _ _ (by decide), validD_cons _ _ (by decide), validD_cons _ _ (by decide)]
  · rw [e]
    simp only [List.cons_append, List.nil_append]
    rw [validD_cons _ _ (by decide), validD_cons _ _ hx]
  · rw [e]
    have e1 := hexd_ascii ((decodeL l).1 / 16) (by omega)
    have e2 := hexd_ascii ((decodeL l).1 % 16) (by omega)
    simp only [List.cons_append, List.nil_append]
    rw [validD_cons _ _ (by decide), validD_cons _ _ (by decide), validD_cons _ _ (by decide), validD_cons _ _ (by decide), validD_cons _ _ e1, validD_cons _ _ e2]
  · rw [e]
    exact valid_app l r hne hb
theorem valid_quo (r : List UInt8) : ∀ (n : Nat) (l : List UInt8), l.length ≤ n → validD (quo l ++ r) = validD r
  | n, l, hn => by
    by_cases hne : l = []
    · subst hne; rfl
    · have hlt := drop_lt l hne
      obtain ⟨m, rfl⟩ : ∃ m, n = m + 1 := ⟨n - 1, by omega⟩
      rw [quo_step l hne, List.append_assoc, valid_esc l _ hne, valid_quo r m _ (by omega)]
theorem valid_quote (l : List UInt8) : validD (quoteL l) = true := by
  unfold quoteL
  rw [validD_cons _ _ (by decide), valid_quo [34] _ l (Nat.le_refl _)]
  decide +kernel

theorem enc_bad : encodeRune 65533 = [239, 191, 189] := by decide +kernel
theorem valid_mend : ∀ (n : Nat) (l : List UInt8), l.length ≤ n → validD (mend l) = true
  | n, l, hn => by
    by_cases hne : l = []
    · subst hne; rfl
    · have hlt := drop_lt l hne
      obtain ⟨m, rfl⟩ : ∃ m, n = m + 1 := ⟨n - 1, by omega⟩
      rw [mend_step l hne]
      have ih := valid_mend m (l.drop (decodeL l).2) (by omega)
      by_cases hb : brk l
      · rw [hb.1]
        show validD (encodeRune 65533 ++ _) = true
        rw [enc_bad]
        have e := dec_three 239 191 189 (mend (l.drop (decodeL l).2)) (by decide) (by decide) (by decide) (by decide) (by decide)
        simp only [List.cons_append, List.nil_append]
        rw [validD_step _ (by simp), e, if_neg (by decide)]
        exact ih
      · rw [encode_decode l hne hb, valid_app l _ hne hb]
        exact ih
theorem mend_same : ∀ (n : Nat) (l : List UInt8), l.length ≤ n → validD l = true → mend l = l
  | n, l, hn, hv => by
    by_cases hne : l = []
    · subst hne; rfl
    · have hlt := drop_lt l hne
      obtain ⟨m, rfl⟩ : ∃ m, n = m + 1 := ⟨n - 1, by omega⟩
      rw [validD_step l hne] at hv
      split at hv
      · cases hv
      · rename_i hb
        rw [mend_step l hne, encode_decode l hne hb, mend_same m _ (by omega) hv, List.take_append_drop]
theorem valid_iff_mend (l : List UInt8) : validD l = decide (mend l = l) := by
  cases h : validD l
  · symm
    apply decide_eq_false
    intro e
    have := valid_mend _ l (Nat.le_refl _)
    rw [e, h] at this
    cases this
  · exact (decide_eq_true (mend_same _ l (Nat.le_refl _) h)).symm
end Go.Proofs.YtgcccihnlecpnaaDoor
