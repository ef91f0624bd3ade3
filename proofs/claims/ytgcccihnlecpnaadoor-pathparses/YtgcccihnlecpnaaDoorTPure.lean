/-
  Texts in quotes, as plain functions of bytes: what is written of a text, what is read of one, and how they go together. No conditions beyond those stated.
-/
import Derived.Lib.ValidLaws
import Derived.Lib.MapLaws
namespace Go.Proofs.YtgcccihnlecpnaaDoor
open Go.Lib

abbrev brk (l : List UInt8) : Prop := (decodeL l).1 = 65533 ∧ (decodeL l).2 = 1

def hexd (n : Nat) : UInt8 := if n < 10 then UInt8.ofNat (48 + n) else UInt8.ofNat (87 + n)

/-- what stands in quotes of the character that a text begins with. -/
def esc (l : List UInt8) : List UInt8 :=
  if brk l then [92, 117, 102, 102, 102, 100]
  else if (decodeL l).1 = 8 then [92, 98]
  else if (decodeL l).1 = 9 then [92, 116]
  else if (decodeL l).1 = 10 then [92, 110]
  else if (decodeL l).1 = 12 then [92, 102]
  else if (decodeL l).1 = 13 then [92, 114]
  else if (decodeL l).1 < 32 then [92, 117, 48, 48, hexd ((decodeL l).1 / 16), hexd ((decodeL l).1 % 16)]
  else if (decodeL l).1 = 34 ∨ (decodeL l).1 = 92 then [92, UInt8.ofNat (decodeL l).1]
  else l.take (decodeL l).2

def quoN : Nat → List UInt8 → List UInt8
  | 0, _ => []
  | n + 1, l => if l = [] then [] else esc l ++ quoN n (l.drop (decodeL l).2)
def quo (l : List UInt8) : List UInt8 := quoN l.length l

theorem quoN_nil : ∀ n, quoN n [] = []
  | 0 => rfl
  | _ + 1 => by simp [quoN]
theorem quoN_fuel : ∀ (n m : Nat) (l : List UInt8), l.length ≤ n → l.length ≤ m → quoN n l = quoN m l
  | 0, m, l, hn, _ => by
    have : l = [] := List.eq_nil_of_length_eq_zero (by omega)
    subst this
    rw [quoN_nil, quoN_nil]
  | n + 1, 0, l, _, hm => by
    have : l = [] := List.eq_nil_of_length_eq_zero (by omega)
    subst this
    rw [quoN_nil, quoN_nil]
  | n + 1, m + 1, l, hn, hm => by
    by_cases hne : l = []
    · subst hne
      rw [quoN_nil, quoN_nil]
    · have hw := decodeL_width l
      have hl : 0 < l.length := List.length_pos_iff.2 hne
      simp only [quoN, if_neg hne]
      rw [quoN_fuel n m _ (by rw [List.length_drop]; omega) (by rw [List.length_drop]; omega)]
theorem quo_nil : quo [] = [] := rfl
theorem quo_step (l : List UInt8) (hne : l ≠ []) : quo l = esc l ++ quo (l.drop (decodeL l).2) := by
  have hw := decodeL_width l
  have hl : 0 < l.length := List.length_pos_iff.2 hne
  unfold quo
  obtain ⟨n, hn⟩ : ∃ n, l.length = n + 1 := ⟨l.length - 1, by omega⟩
  rw [hn]
  simp only [quoN, if_neg hne]
  rw [quoN_fuel n _ _ (by rw [List.length_drop]; omega) (Nat.le_refl _)]
def quoteL (l : List UInt8) : List UInt8 := 34 :: (quo l ++ [34])

theorem dec_two (a b : UInt8) (r : List UInt8) (c1 : a.toNat / 32 = 6) (c3 : b.toNat / 64 = 2) (cv : 128 ≤ a.toNat % 32 * 64 + b.toNat % 64) : decodeL (a :: b :: r) = (a.toNat % 32 * 64 + b.toNat % 64, 2) := by
  rw [decodeL_N]
  simp only [List.getD_cons_zero, List.getD_cons_succ, List.length_cons]
  unfold decodeN
  rw [if_neg (by omega), if_pos ⟨c1, by omega, c3⟩, if_pos cv]
theorem dec_three (a b c : UInt8) (r : List UInt8) (c1 : a.toNat / 16 = 14) (c3 : b.toNat / 64 = 2) (c4 : c.toNat / 64 = 2) (cv : 2048 ≤ a.toNat % 16 * 4096 + b.toNat % 64 * 64 + c.toNat % 64)
    (cs : a.toNat % 16 * 4096 + b.toNat % 64 * 64 + c.toNat % 64 < 55296 ∨ 57344 ≤ a.toNat % 16 * 4096 + b.toNat % 64 * 64 + c.toNat % 64) : decodeL (a :: b :: c :: r) = (a.toNat % 16 * 4096 + b.toNat % 64 * 64 + c.toNat % 64, 3) := by
  have := a.toNat_lt
  rw [decodeL_N]
  simp only [List.getD_cons_zero, List.getD_cons_succ, List.length_cons]
  unfold decodeN
  rw [if_neg (by omega), if_neg (by omega), if_pos ⟨c1, ⟨by omega, c3⟩, by omega, c4⟩, if_pos ⟨cv, by omega⟩]
theorem dec_four (a b c d : UInt8) (r : List UInt8) (c1 : a.toNat / 8 = 30) (c3 : b.toNat / 64 = 2) (c4 : c.toNat / 64 = 2) (c5 : d.toNat / 64 = 2) (cv : 65536 ≤ a.toNat % 8 * 262144 + b.toNat % 64 * 4096 + c.toNat % 64 * 64 + d.toNat % 64)
    (cw : a.toNat % 8 * 262144 + b.toNat % 64 * 4096 + c.toNat % 64 * 64 + d.toNat % 64 ≤ 1114111) : decodeL (a :: b :: c :: d :: r) = (a.toNat % 8 * 262144 + b.toNat % 64 * 4096 + c.toNat % 64 * 64 + d.toNat % 64, 4) := by
  have := a.toNat_lt
  rw [decodeL_N]
  simp only [List.getD_cons_zero, List.getD_cons_succ, List.length_cons]
  unfold decodeN
  rw [if_neg (by omega), if_neg (by omega), if_neg (by omega), if_pos ⟨c1, ⟨by omega, c3⟩, ⟨by omega, c4⟩, by omega, c5⟩, if_pos ⟨cv, by omega⟩]

/-- the five shapes of what a text begins with. -/
theorem shapes (l : List UInt8) (hne : l ≠ []) :
    (∃ a t, l = a :: t ∧ a.toNat < 128 ∧ decodeL l = (a.toNat, 1)) ∨
    (∃ a b t, l = a :: b :: t ∧ a.toNat / 32 = 6 ∧ b.toNat / 64 = 2 ∧ 128 ≤ a.toNat % 32 * 64 + b.toNat % 64 ∧ decodeL l = (a.toNat % 32 * 64 + b.toNat % 64, 2)) ∨
    (∃ a b c t, l = a :: b :: c :: t ∧ a.toNat / 16 = 14 ∧ b.toNat / 64 = 2 ∧ c.toNat / 64 = 2 ∧ 2048 ≤ a.toNat % 16 * 4096 + b.toNat % 64 * 64 + c.toNat % 64 ∧
      (a.toNat % 16 * 4096 + b.toNat % 64 * 64 + c.toNat % 64 < 55296 ∨ 57344 ≤ a.toNat % 16 * 4096 + b.toNat % 64 * 64 + c.toNat % 64) ∧ decodeL l = (a.toNat % 16 * 4096 + b.toNat % 64 * 64 + c.toNat % 64, 3)) ∨
    (∃ a b c d t, l = a :: b :: c :: d :: t ∧ a.toNat / 8 = 30 ∧ b.toNat / 64 = 2 ∧ c.toNat / 64 = 2 ∧ d.toNat / 64 = 2 ∧ 65536 ≤ a.toNat % 8 * 262144 + b.toNat % 64 * 4096 + c.toNat % 64 * 64 + d.toNat % 64 ∧
      a.toNat % 8 * 262144 + b.toNat % 64 * 4096 + c.toNat % 64 * 64 + d.toNat % 64 ≤ 1114111 ∧ decodeL l = (a.toNat % 8 * 262144 + b.toNat % 64 * 4096 + c.toNat % 64 * 64 + d.toNat % 64, 4)) ∨
    (brk l ∧ decodeL l = (65533, 1) ∧ ∃ a t, l = a :: t ∧ 128 ≤ a.toNat) := by
  have hl : 0 < l.length := List.length_pos_iff.2 hne
  have e0 := decodeL_N l
  match l, hne with
  | [a], _ =>
    rcases decodeN_shape 1 a.toNat 0 0 0 with ⟨c, e⟩ | ⟨c1, c2, c3, cv, e⟩ | ⟨c1, c2, c3, c4, cv, cs, e⟩ | ⟨c1, c2, c3, c4, c5, cv, cw, e⟩ | e
    · exact .inl ⟨a, [], rfl, c, e0.trans e⟩
    · omega
    · omega
    · omega
    · by_cases ha : a.toNat < 128
      · exact .inl ⟨a, [], rfl, ha, decodeL_ascii a [] ha⟩
      · exact .inr (.inr (.inr (.inr ⟨by rw [brk, e0.trans e]; exact ⟨rfl, rfl⟩, e0.trans e, a, [], rfl, by omega⟩)))
  | a :: b :: t, _ =>
    rcases decodeN_shape (a :: b :: t).length ((a :: b :: t).getD 0 0).toNat ((a :: b :: t).getD 1 0).toNat ((a :: b :: t).getD 2 0).toNat ((a :: b :: t).getD 3 0).toNat with ⟨c, e⟩ | ⟨c1, c2, c3, cv, e⟩ | ⟨c1, c2, c3, c4, cv, cs, e⟩ | ⟨c1, c2, c3, c4, c5, cv, cw, e⟩ | e
    · exact .inl ⟨a, b :: t, rfl, c, e0.trans e⟩
    · exact .inr (.inl ⟨a, b, t, rfl, c1, c3, cv, e0.trans e⟩)
    · match t, c2 with
      | c :: t, _ => exact .inr (.inr (.inl ⟨a, b, c, t, rfl, c1, c3, c4, cv, cs, e0.trans e⟩))
    · match t, c2 with
      | c :: d :: t, _ => exact .inr (.inr (.inr (.inl ⟨a, b, c, d, t, rfl, c1, c3, c4, c5, cv, cw, e0.trans e⟩)))
    · by_cases ha : a.toNat < 128
      · exact .inl ⟨a, b :: t, rfl, ha, decodeL_ascii a _ ha⟩
      · exact .inr (.inr (.inr (.inr ⟨by rw [brk, e0.trans e]; exact ⟨rfl, rfl⟩, e0.trans e, a, b :: t, rfl, by omega⟩)))

/-- what was decoded whole is decoded so whatever stands behind it. -/
theorem dec_app (l r : List UInt8) (hne : l ≠ []) (hv : ¬ brk l) : decodeL (l.take (decodeL l).2 ++ r) = decodeL l := by
  rcases shapes l hne with ⟨a, t, rfl, ha, e⟩ | ⟨a, b, t, rfl, c1, c3, cv, e⟩ | ⟨a, b, c, t, rfl, c1, c3, c4, cv, cs, e⟩ | ⟨a, b, c, d, t, rfl, c1, c3, c4, c5, cv, cw, e⟩ | ⟨h, _⟩
  · rw [e]; exact decodeL_ascii a _ ha
  · rw [e]; exact dec_two a b r c1 c3 cv
  · rw [e]; exact dec_three a b c r c1 c3 c4 cv cs
  · rw [e]; exact dec_four a b c d r c1 c3 c4 c5 cv cw
  · exact absurd h hv

theorem dec_bad1 (a : UInt8) (h : 128 ≤ a.toNat) : decodeL [a] = (65533, 1) := by
  rw [decodeL_N]
  simp only [List.getD_cons_zero, List.getD_cons_succ, List.length_cons, List.length_nil, List.getD_nil]
  unfold decodeN
  rw [if_neg (by omega), if_neg (by omega), if_neg (by omega), if_neg (by omega)]
theorem dec_bad2 (a b : UInt8) (h : 224 ≤ a.toNat) : decodeL [a, b] = (65533, 1) := by
  have := a.toNat_lt
  rw [decodeL_N]
  simp only [List.getD_cons_zero, List.getD_cons_succ, List.length_cons, List.length_nil, List.getD_nil]
  unfold decodeN
  rw [if_neg (by omega), if_neg (by omega), if_neg (by omega), if_neg (by omega)]
theorem dec_bad3 (a b c : UInt8) (h : 240 ≤ a.toNat) : decodeL [a, b, c] = (65533, 1) := by
  have := a.toNat_lt
  rw [decodeL_N]
  simp only [List.getD_cons_zero, List.getD_cons_succ, List.length_cons, List.length_nil, List.getD_nil]
  unfold decodeN
  rw [if_neg (by omega), if_neg (by omega), if_neg (by omega), if_neg (by omega)]

/-- what is cut off within a character is none. -/
theorem dec_short (l : List UInt8) (hne : l ≠ []) (hv : ¬ brk l) (k : Nat) (h0 : 0 < k) (hk : k < (decodeL l).2) : decodeL (l.take k) = (65533, 1) := by
  rcases shapes l hne with ⟨a, t, rfl, ha, e⟩ | ⟨a, b, t, rfl, c1, c3, cv, e⟩ | ⟨a, b, c, t, rfl, c1, c3, c4, cv, cs, e⟩ | ⟨a, b, c, d, t, rfl, c1, c3, c4, c5, cv, cw, e⟩ | ⟨h, _⟩
  · rw [e] at hk; simp only at hk; omega
  · rw [e] at hk; simp only at hk
    obtain rfl : k = 1 := by omega
    exact dec_bad1 a (by omega)
  · rw [e] at hk; simp only at hk
    match k, h0, hk with
    | 1, _, _ => exact dec_bad1 a (by omega)
    | 2, _, _ => exact dec_bad2 a b (by omega)
  · rw [e] at hk; simp only at hk
    match k, h0, hk with
    | 1, _, _ => exact dec_bad1 a (by omega)
    | 2, _, _ => exact dec_bad2 a b (by omega)
    | 3, _, _ => exact dec_bad3 a b c (by omega)
  · exact absurd h hv

def hexv (c : Nat) : Option Nat :=
  if 48 ≤ c ∧ c ≤ 57 then some (c - 48) else if 97 ≤ c ∧ c ≤ 102 then some (c - 87) else if 65 ≤ c ∧ c ≤ 70 then some (c - 55) else none
/-- the number of the four digits that bytes begin with. -/
def unitL : List UInt8 → Option Nat
  | a :: b :: c :: d :: _ =>
    match hexv a.toNat with
    | none => none
    | some x => match hexv b.toNat with
      | none => none
      | some y => match hexv c.toNat with
        | none => none
        | some z => match hexv d.toNat with
          | none => none
          | some u => some (((x * 16 + y) * 16 + z) * 16 + u)
  | _ => none
/-- the number of the unit that bytes begin with: a backslash, an u, four digits. -/
def unitU : List UInt8 → Option Nat
  | a :: b :: r => if a.toNat = 92 ∧ b.toNat = 117 then unitL r else none
  | _ => none
/-- the character of the unit, or the two units, that bytes begin with. -/
def unitsL (l : List UInt8) : Option (Nat × Nat) :=
  match unitU l with
  | none => none
  | some a =>
    if 56320 ≤ a ∧ a < 57344 then none
    else if a < 55296 ∨ 57344 ≤ a then some (a, 6)
    else match unitU (l.drop 6) with
      | none => none
      | some b => if 56320 ≤ b ∧ b < 57344 then some (65536 + (a - 55296) * 1024 + (b - 56320), 12) else none
/-- the character of an escape. -/
def escL : List UInt8 → Option (Nat × Nat)
  | a :: x :: r =>
    if x.toNat = 117 then unitsL (a :: x :: r)
    else if x.toNat = 98 then some (8, 2) else if x.toNat = 116 then some (9, 2) else if x.toNat = 110 then some (10, 2)
    else if x.toNat = 102 then some (12, 2) else if x.toNat = 114 then some (13, 2)
    else if x.toNat = 34 ∨ x.toNat = 92 ∨ x.toNat = 47 then some (x.toNat, 2) else none
  | _ => none
/-- the character that bytes between quotes begin with. -/
def one (l : List UInt8) : Option (Nat × Nat) :=
  if (decodeL l).1 < 32 ∨ brk l then none else if (decodeL l).1 = 92 then escL l else some (decodeL l)

theorem hexv_lt {c x : Nat} (h : hexv c = some x) : x < 16 := by
  unfold hexv at h
  split at h
  · cases h; omega
  · split at h
    · cases h; omega
    · split at h
      · cases h; omega
      · cases h
theorem unitL_lt {l : List UInt8} {x : Nat} (h : unitL l = some x) : x < 65536 := by
  unfold unitL at h
  repeat' split at h
  all_goals first | cases h | skip
  rename_i h1 _ _ h2 _ _ h3 _ _ h4
  have := hexv_lt h1; have := hexv_lt h2; have := hexv_lt h3; have := hexv_lt h4
  omega
theorem unitU_lt {l : List UInt8} {x : Nat} (h : unitU l = some x) : x < 65536 := by
  unfold unitU at h
  split at h
  · split at h
    · exact unitL_lt h
    · cases h
  · cases h
theorem unitsL_pos {l : List UInt8} {c n : Nat} (h : unitsL l = some (c, n)) : 1 ≤ n ∧ c ≤ 1114111 := by
  unfold unitsL at h
  split at h
  · cases h
  · rename_i a ha
    have := unitU_lt ha
    split at h
    · cases h
    · split at h
      · simp only [Option.some.injEq, Prod.mk.injEq] at h; omega
      · split at h
        · cases h
        · split at h
          · simp only [Option.some.injEq, Prod.mk.injEq] at h; omega
          · cases h
theorem escL_pos {l : List UInt8} {c n : Nat} (h : escL l = some (c, n)) : 1 ≤ n ∧ c ≤ 1114111 := by
  unfold escL at h
  split at h
  · repeat' split at h
    all_goals first | exact unitsL_pos h | (simp only [Option.some.injEq, Prod.mk.injEq] at h; omega) | cases h
  · cases h
theorem one_pos {l : List UInt8} {c n : Nat} (h : one l = some (c, n)) : 1 ≤ n ∧ c ≤ 1114111 := by
  unfold one at h
  split at h
  · cases h
  · split at h
    · exact escL_pos h
    · have e := Option.some.inj h
      have := decodeL_width l
      have := decodeL_rune l
      rw [e] at *
      exact ⟨by assumption, by assumption⟩
end Go.Proofs.YtgcccihnlecpnaaDoor
