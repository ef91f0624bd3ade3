/-
  Texts in quotes, as plain functions of bytes: what is written of a text, what is read of one, and how they go together. No conditions beyond those stated.
  Texts in quotes, as plain functions of bytes: reading; what is written is read as it was, cut off it is none, it is UTF-8. No conditions beyond those stated.
  JSON as plain functions of bytes: reading and printing of values. No conditions beyond those stated.
  package value's Valid at values with nothing beside their kind: true. Conditions: as stated.
-/
import Derived.Lib.ValidLaws
import Derived.Lib.MapLaws
import Derived.Test.YtfpkkobclkdniaaGreatDoorU1
import Derived.Lib.ParseIntB
import Derived.Lib.ItoaNum
import Derived.Test.YtfpkkobclkdniaaGreatDoorU6
import Derived.Test.YtfpkkobclkdniaaGreatDoorU4
import Derived.Deep.QuietTactic
namespace Go.Proofs.YtfpkkobclkdniaaGreatDoor
open Go.Lib

abbrev brk (l : List UInt8) : Prop := (decodeL l).1 = 65533 ∧ (decodeL l).2 = 1

def hexd (n : Nat) : UInt8 := if n < 10 then UInt8.ofNat (48 + n) else UInt8.ofNat (87 + n)

/-- what stands in quotes of the character that a text begins with. -/
def esc (l : List UInt8) : List UInt8 :=
  if brk l then [92, 117, 102, 102, 102, 100]
  else if (decodeL l).1 = 8 then [92, 98]
  else if (decodeL l).1 = 9 then [92, 116]
  else if (decodeL l).1 = 10 then [92, 110]
  else if (decodeL l).1 = 12 then [92, 102]
  else if (decodeL l).1 = 13 then [92, 114]
  else if (decodeL l).1 < 32 then [92, 117, 48, 48, hexd ((decodeL l).1 / 16), hexd ((decodeL l).1 % 16)]
  else if (decodeL l).1 = 34 ∨ (decodeL l).1 = 92 then [92, UInt8.ofNat (decodeL l).1]
  else l.take (decodeL l).2

def quoN : Nat → List UInt8 → List UInt8
  | 0, _ => []
  | n + 1, l => if l = [] then [] else esc l ++ quoN n (l.drop (decodeL l).2)
def quo (l : List UInt8) : List UInt8 := quoN l.length l

theorem quoN_nil : ∀ n, quoN n [] = []
  | 0 => rfl
  | _ + 1 => by simp [quoN]
theorem quoN_fuel : ∀ (n m : Nat) (l : List UInt8), l.length ≤ n → l.length ≤ m → quoN n l = quoN m l
  | 0, m, l, hn, _ => by
    have : l = [] := List.eq_nil_of_length_eq_zero (by omega)
    subst this
    rw [quoN_nil, quoN_nil]
  | n + 1, 0, l, _, hm => by
    have : l = [] := List.eq_nil_of_length_eq_zero (by omega)
    subst this
    rw [quoN_nil, quoN_nil]
  | n + 1, m + 1, l, hn, hm => by
    by_cases hne : l = []
    · subst hne
      rw [quoN_nil, quoN_nil]
    · have hw := decodeL_width l
      have hl : 0 < l.length := List.length_pos_iff.2 hne
      simp only [quoN, if_neg hne]
      rw [quoN_fuel n m _ (by rw [List.length_drop]; omega) (by rw [List.length_drop]; omega)]
theorem quo_nil : quo [] = [] := rfl
theorem quo_step (l : List UInt8) (hne : l ≠ []) : quo l = esc l ++ quo (l.drop (decodeL l).2) := by
  have hw := decodeL_width l
  have hl : 0 < l.length := List.length_pos_iff.2 hne
  unfold quo
  obtain ⟨n, hn⟩ : ∃ n, l.length = n + 1 := ⟨l.length - 1, by omega⟩
  rw [hn]
  simp only [quoN, if_neg hne]
  rw [quoN_fuel n _ _ (by rw [List.length_drop]; omega) (Nat.le_refl _)]
def quoteL (l : List UInt8) : List UInt8 := 34 :: (quo l ++ [34])

theorem dec_two (a b : UInt8) (r : List UInt8) (c1 : a.toNat / 32 = 6) (c3 : b.toNat / 64 = 2) (cv : 128 ≤ a.toNat % 32 * 64 + b.toNat % 64) : decodeL (a :: b :: r) = (a.toNat % 32 * 64 + b.toNat % 64, 2) := by
  rw [decodeL_N]
  simp only [List.getD_cons_zero, List.getD_cons_succ, List.length_cons]
  unfold decodeN
  rw [if_neg (by omega), if_pos ⟨c1, by omega, c3⟩, if_pos cv]
theorem dec_three (a b c : UInt8) (r : List UInt8) (c1 : a.toNat / 16 = 14) (c3 : b.toNat / 64 = 2) (c4 : c.toNat / 64 = 2) (cv : 2048 ≤ a.toNat % 16 * 4096 + b.toNat % 64 * 64 + c.toNat % 64)
    (cs : a.toNat % 16 * 4096 + b.toNat % 64 * 64 + c.toNat % 64 < 55296 ∨ 57344 ≤ a.toNat % 16 * 4096 + b.toNat % 64 * 64 + c.toNat % 64) : decodeL (a :: b :: c :: r) = (a.toNat % 16 * 4096 + b.toNat % 64 * 64 + c.toNat % 64, 3) := by
  have := a.toNat_lt
  rw [decodeL_N]
  simp only [List.getD_cons_zero, List.getD_cons_succ, List.length_cons]
  unfold decodeN
  rw [if_neg (by omega), if_neg (by omega), if_pos ⟨c1, ⟨by omega, c3⟩, by omega, c4⟩, if_pos ⟨cv, by omega⟩]
theorem dec_four (a b c d : UInt8) (r : List UInt8) (c1 : a.toNat / 8 = 30) (c3 : b.toNat / 64 = 2) (c4 : c.toNat / 64 = 2) (c5 : d.toNat / 64 = 2) (cv : 65536 ≤ a.toNat % 8 * 262144 + b.toNat % 64 * 4096 + c.toNat % 64 * 64 + d.toNat % 64)
    (cw : a.toNat % 8 * 262144 + b.toNat % 64 * 4096 + c.toNat % 64 * 64 + d.toNat % 64 ≤ 1114111) : decodeL (a :: b :: c :: d :: r) = (a.toNat % 8 * 262144 + b.toNat % 64 * 4096 + c.toNat % 64 * 64 + d.toNat % 64, 4) := by
  have := a.toNat_lt
  rw [decodeL_N]
  simp only [List.getD_cons_zero, List.getD_cons_succ, List.length_cons]
  unfold decodeN
  rw [if_neg (by omega), if_neg (by omega), if_neg (by omega), if_pos ⟨c1, ⟨by omega, c3⟩, ⟨by omega, c4⟩, by omega, c5⟩, if_pos ⟨cv, by omega⟩]

/-- the five shapes of what a text begins with. -/
theorem shapes (l : List UInt8) (hne : l ≠ []) :
    (∃ a t, l = a :: t ∧ a.toNat < 128 ∧ decodeL l = (a.toNat, 1)) ∨
    (∃ a b t, l = a :: b :: t ∧ a.toNat / 32 = 6 ∧ b.toNat / 64 = 2 ∧ 128 ≤ a.toNat % 32 * 64 + b.toNat % 64 ∧ decodeL l = (a.toNat % 32 * 64 + b.toNat % 64, 2)) ∨
    (∃ a b c t, l = a :: b :: c :: t ∧ a.toNat / 16 = 14 ∧ b.toNat / 64 = 2 ∧ c.toNat / 64 = 2 ∧ 2048 ≤ a.toNat % 16 * 4096 + b.toNat % 64 * 64 + c.toNat % 64 ∧
      (a.toNat % 16 * 4096 + b.toNat % 64 * 64 + c.toNat % 64 < 55296 ∨ 57344 ≤ a.toNat % 16 * 4096 + b.toNat % 64 * 64 + c.toNat % 64) ∧ decodeL l = (a.toNat % 16 * 4096 + b.toNat % 64 * 64 + c.toNat % 64, 3)) ∨
    (∃ a b c d t, l = a :: b :: c :: d :: t ∧ a.toNat / 8 = 30 ∧ b.toNat / 64 = 2 ∧ c.toNat / 64 = 2 ∧ d.toNat / 64 = 2 ∧ 65536 ≤ a.toNat % 8 * 262144 + b.toNat % 64 * 4096 + c.toNat % 64 * 64 + d.toNat % 64 ∧
      a.toNat % 8 * 262144 + b.toNat % 64 * 4096 + c.toNat % 64 * 64 + d.toNat % 64 ≤ 1114111 ∧ decodeL l = (a.toNat % 8 * 262144 + b.toNat % 64 * 4096 + c.toNat % 64 * 64 + d.toNat % 64, 4)) ∨
    (brk l ∧ decodeL l = (65533, 1) ∧ ∃ a t, l = a :: t ∧ 128 ≤ a.toNat) := by
  have hl : 0 < l.length := List.length_pos_iff.2 hne
  have e0 := decodeL_N l
  match l, hne with
  | [a], _ =>
    rcases decodeN_shape 1 a.toNat 0 0 0 with ⟨c, e⟩ | ⟨c1, c2, c3, cv, e⟩ | ⟨c1, c2, c3, c4, cv, cs, e⟩ | ⟨c1, c2, c3, c4, c5, cv, cw, e⟩ | e
    · exact .inl ⟨a, [], rfl, c, e0.trans e⟩
    · omega
    · omega
    · omega
    · by_cases ha : a.toNat < 128
      · exact .inl ⟨a, [], rfl, ha, decodeL_ascii a [] ha⟩
      · exact .inr (.inr (.inr (.inr ⟨by rw [brk, e0.trans e]; exact ⟨rfl, rfl⟩, e0.trans e, a, [], rfl, by omega⟩)))
  | a :: b :: t, _ =>
    rcases decodeN_shape (a :: b :: t).length ((a :: b :: t).getD 0 0).toNat ((a :: b :: t).getD 1 0).toNat ((a :: b :: t).getD 2 0).toNat ((a :: b :: t).getD 3 0).toNat with ⟨c, e⟩ | ⟨c1, c2, c3, cv, e⟩ | ⟨c1, c2, c3, c4, cv, cs, e⟩ | ⟨c1, c2, c3, c4, c5, cv, cw, e⟩ | e
    · exact .inl ⟨a, b :: t, rfl, c, e0.trans e⟩
    · exact .inr (.inl ⟨a, b, t, rfl, c1, c3, cv, e0.trans e⟩)
    · match t, c2 with
      | c :: t, _ => exact .inr (.inr (.inl ⟨a, b, c, t, rfl, c1, c3, c4, cv, cs, e0.trans e⟩))
    · match t, c2 with
      | c :: d :: t, _ => exact .inr (.inr (.inr (.inl ⟨a, b, c, d, t, rfl, c1, c3, c4, c5, cv, cw, e0.trans e⟩)))
    · by_cases ha : a.toNat < 128
      · exact .inl ⟨a, b :: t, rfl, ha, decodeL_ascii a _ ha⟩
      · exact .inr (.inr (.inr (.inr ⟨by rw [brk, e0.trans e]; exact ⟨rfl, rfl⟩, e0.trans e, a, b :: t, rfl, by omega⟩)))

/-- what was decoded whole is decoded so whatever stands behind it. -/
theorem dec_app (l r : List UInt8) (hne : l ≠ []) (hv : ¬ brk l) : decodeL (l.take (decodeL l).2 ++ r) = decodeL l := by
  rcases shapes l hne with ⟨a, t, rfl, ha, e⟩ | ⟨a, b, t, rfl, c1, c3, cv, e⟩ | ⟨a, b, c, t, rfl, c1, c3, c4, cv, cs, e⟩ | ⟨a, b, c, d, t, rfl, c1, c3, c4, c5, cv, cw, e⟩ | ⟨h, _⟩
  · rw [e]; exact decodeL_ascii a _ ha
  · rw [e]; exact dec_two a b r c1 c3 cv
  · rw [e]; exact dec_three a b c r c1 c3 c4 cv cs
  · rw [e]; exact dec_four a b c d r c1 c3 c4 c5 cv cw
  · exact absurd h hv

theorem dec_bad1 (a : UInt8) (h : 128 ≤ a.toNat) : decodeL [a] = (65533, 1) := by
  rw [decodeL_N]
  simp only [List.getD_cons_zero, List.getD_cons_succ, List.length_cons, List.length_nil, List.getD_nil]
  unfold decodeN
  rw [if_neg (by omega), if_neg (by omega), if_neg (by omega), if_neg (by omega)]
theorem dec_bad2 (a b : UInt8) (h : 224 ≤ a.toNat) : decodeL [a, b] = (65533, 1) := by
  have := a.toNat_lt
  rw [decodeL_N]
  simp only [List.getD_cons_zero, List.getD_cons_succ, List.length_cons, List.length_nil, List.getD_nil]
  unfold decodeN
  rw [if_neg (by omega), if_neg (by omega), if_neg (by omega), if_neg (by omega)]
theorem dec_bad3 (a b c : UInt8) (h : 240 ≤ a.toNat) : decodeL [a, b, c] = (65533, 1) := by
  have := a.toNat_lt
  rw [decodeL_N]
  simp only [List.getD_cons_zero, List.getD_cons_succ, List.length_cons, List.length_nil, List.getD_nil]
  unfold decodeN
  rw [if_neg (by omega), if_neg (by omega), if_neg (by omega), if_neg (by omega)]

/-- what is cut off within a character is none. -/
theorem dec_short (l : List UInt8) (hne : l ≠ []) (hv : ¬ brk l) (k : Nat) (h0 : 0 < k) (hk : k < (decodeL l).2) : decodeL (l.take k) = (65533, 1) := by
  rcases shapes l hne with ⟨a, t, rfl, ha, e⟩ | ⟨a, b, t, rfl, c1, c3, cv, e⟩ | ⟨a, b, c, t, rfl, c1, c3, c4, cv, cs, e⟩ | ⟨a, b, c, d, t, rfl, c1, c3, c4, c5, cv, cw, e⟩ | ⟨h, _⟩
  · rw [e] at hk; simp only at hk; omega
  · rw [e] at hk; simp only at hk
    obtain rfl : k = 1 := by omega
    exact dec_bad1 a (by omega)
  · rw [e] at hk; simp only at hk
    match k, h0, hk with
    | 1, _, _ => exact dec_bad1 a (by omega)
    | 2, _, _ => exact dec_bad2 a b (by omega)
  · rw [e] at hk; simp only at hk
    match k, h0, hk with
    | 1, _, _ => exact dec_bad1 a (by omega)
    | 2, _, _ => exact dec_bad2 a b (by omega)
    | 3, _, _ => exact dec_bad3 a b c (by omega)
  · exact absurd h hv

def hexv (c : Nat) : Option Nat :=
  if 48 ≤ c ∧ c ≤ 57 then some (c - 48) else if 97 ≤ c ∧ c ≤ 102 then some (c - 87) else if 65 ≤ c ∧ c ≤ 70 then some (c - 55) else none
/-- the number of the four digits that bytes begin with. -/
def unitL : List UInt8 → Option Nat
  | a :: b :: c :: d :: _ =>
    match hexv a.toNat with
    | none => none
    | some x => match hexv b.toNat with
      | none => none
      | some y => match hexv c.toNat with
        | none => none
        | some z => match hexv d.toNat with
          | none => none
          | some u => some (((x * 16 + y) * 16 + z) * 16 + u)
  | _ => none
/-- the number of the unit that bytes begin with: a backslash, an u, four digits. -/
def unitU : List UInt8 → Option Nat
  | a :: b :: r => if a.toNat = 92 ∧ b.toNat = 117 then unitL r else none
  | _ => none
/-- the character of the unit, or the two units, that bytes begin with. -/
def unitsL (l : List UInt8) : Option (Nat × Nat) :=
  match unitU l with
  | none => none
  | some a =>
    if 56320 ≤ a ∧ a < 57344 then none
    else if a < 55296 ∨ 57344 ≤ a then some (a, 6)
    else match unitU (l.drop 6) with
      | none => none
      | some b => if 56320 ≤ b ∧ b < 57344 then some (65536 + (a - 55296) * 1024 + (b - 56320), 12) else none
/-- the character of an escape. -/
def escL : List UInt8 → Option (Nat × Nat)
  | a :: x :: r =>
    if x.toNat = 117 then unitsL (a :: x :: r)
    else if x.toNat = 98 then some (8, 2) else if x.toNat = 116 then some (9, 2) else if x.toNat = 110 then some (10, 2)
    else if x.toNat = 102 then some (12, 2) else if x.toNat = 114 then some (13, 2)
    else if x.toNat = 34 ∨ x.toNat = 92 ∨ x.toNat = 47 then some (x.toNat, 2) else none
  | _ => none
/-- the character that bytes between quotes begin with. -/
def one (l : List UInt8) : Option (Nat × Nat) :=
  if (decodeL l).1 < 32 ∨ brk l then none else if (decodeL l).1 = 92 then escL l else some (decodeL l)

theorem hexv_lt {c x : Nat} (h : hexv c = some x) : x < 16 := by
  unfold hexv at h
  split at h
  · cases h; omega
  · split at h
    · cases h; omega
    · split at h
      · cases h; omega
      · cases h
theorem unitL_lt {l : List UInt8} {x : Nat} (h : unitL l = some x) : x < 65536 := by
  unfold unitL at h
  repeat' split at h
  all_goals first | cases h | skip
  rename_i h1 _ _ h2 _ _ h3 _ _ h4
  have := hexv_lt h1; have := hexv_lt h2; have := hexv_lt h3; have := hexv_lt h4
  omega
theorem unitU_lt {l : List UInt8} {x : Nat} (h : unitU l = some x) : x < 65536 := by
  unfold unitU at h
  split at h
  · split at h
    · exact unitL_lt h
    · cases h
  · cases h
theorem unitsL_pos {l : List UInt8} {c n : Nat} (h : unitsL l = some (c, n)) : 1 ≤ n ∧ c ≤ 1114111 := by
  unfold unitsL at h
  split at h
  · cases h
  · rename_i a ha
    have := unitU_lt ha
    split at h
    · cases h
    · split at h
      · simp only [Option.some.injEq, Prod.mk.injEq] at h; omega
      · split at h
        · cases h
        · split at h
          · simp only [Option.some.injEq, Prod.mk.injEq] at h; omega
          · cases h
theorem escL_pos {l : List UInt8} {c n : Nat} (h : escL l = some (c, n)) : 1 ≤ n ∧ c ≤ 1114111 := by
  unfold escL at h
  split at h
  · repeat' split at h
    all_goals first | exact unitsL_pos h | (simp only [Option.some.injEq, Prod.mk.injEq] at h; omega) | cases h
  · cases h
theorem one_pos {l : List UInt8} {c n : Nat} (h : one l = some (c, n)) : 1 ≤ n ∧ c ≤ 1114111 := by
  unfold one at h
  split at h
  · cases h
  · split at h
    · exact escL_pos h
    · have e := Option.some.inj h
      have := decodeL_width l
      have := decodeL_rune l
      rw [e] at *
      exact ⟨by assumption, by assumption⟩
end Go.Proofs.YtfpkkobclkdniaaGreatDoor

namespace Go.Proofs.YtfpkkobclkdniaaGreatDoor
open Go.Lib

def rdN : Nat → List UInt8 → List UInt8 → Nat → Option (List UInt8 × Nat)
  | 0, _, _, _ => none
  | _ + 1, [], _, _ => none
  | n + 1, b :: t, out, k =>
    if b.toNat = 34 then some (out, k + 1)
    else match one (b :: t) with
      | none => none
      | some cw => rdN n ((b :: t).drop cw.2) (out ++ encodeRune (cw.1 : Int)) (k + cw.2)
/-- what is read of bytes behind the first quote: what was read so far, the place. -/
def rd (l out : List UInt8) (k : Nat) : Option (List UInt8 × Nat) := rdN l.length l out k
def readL : List UInt8 → Option (List UInt8 × Nat)
  | [] => none
  | b :: t => if b.toNat = 34 then rd t [] 1 else none

theorem rdN_nil : ∀ n out k, rdN n [] out k = none
  | 0, _, _ => rfl
  | _ + 1, _, _ => rfl
theorem rdN_fuel : ∀ (n m : Nat) (l out : List UInt8) (k : Nat), l.length ≤ n → l.length ≤ m → rdN n l out k = rdN m l out k
  | 0, m, l, out, k, hn, _ => by
    have : l = [] := List.eq_nil_of_length_eq_zero (by omega)
    subst this
    rw [rdN_nil, rdN_nil]
  | n + 1, 0, l, out, k, _, hm => by
    have : l = [] := List.eq_nil_of_length_eq_zero (by omega)
    subst this
    rw [rdN_nil, rdN_nil]
  | n + 1, m + 1, [], out, k, _, _ => rfl
  | n + 1, m + 1, b :: t, out, k, hn, hm => by
    simp only [rdN]
    split
    · rfl
    · cases h : one (b :: t) with
      | none => rfl
      | some cw =>
        have := (one_pos (c := cw.1) (n := cw.2) h).1
        simp only [List.length_cons] at hn hm
        exact rdN_fuel n m _ _ _ (by rw [List.length_drop, List.length_cons]; omega) (by rw [List.length_drop, List.length_cons]; omega)
theorem rd_nil (out : List UInt8) (k : Nat) : rd [] out k = none := rfl
theorem rd_quote (b : UInt8) (t out : List UInt8) (k : Nat) (h : b.toNat = 34) : rd (b :: t) out k = some (out, k + 1) := by
  show rdN (t.length + 1) _ _ _ = _
  simp [rdN, h]
theorem rd_none (b : UInt8) (t out : List UInt8) (k : Nat) (h : ¬ b.toNat = 34) (h1 : one (b :: t) = none) : rd (b :: t) out k = none := by
  show rdN (t.length + 1) _ _ _ = _
  simp [rdN, h, h1]
theorem rd_some (b : UInt8) (t out : List UInt8) (k c w : Nat) (h : ¬ b.toNat = 34) (h1 : one (b :: t) = some (c, w)) : rd (b :: t) out k = rd ((b :: t).drop w) (out ++ encodeRune (c : Int)) (k + w) := by
  show rdN (t.length + 1) _ _ _ = _
  have := (one_pos h1).1
  simp only [rdN, h, if_false, h1]
  exact rdN_fuel _ _ _ _ _ (by rw [List.length_drop, List.length_cons]; omega) (Nat.le_refl _)

theorem decE (b : UInt8) (t : List UInt8) (h : b.toNat < 128) : decodeL (b :: t) = (b.toNat, 1) := decodeL_ascii b t h
theorem nbrk_ascii (b : UInt8) (t : List UInt8) (h : b.toNat < 128) : ¬ brk (b :: t) := by
  rw [brk, decE b t h]; simp only; omega

theorem one_back (r : List UInt8) (x : UInt8) (c n : Nat) (h : escL (92 :: x :: r) = some (c, n)) : one (92 :: x :: r) = some (c, n) := by
  have e := decE 92 (x :: r) (by decide)
  unfold one
  rw [if_neg (by rw [not_or]; exact ⟨by rw [e]; decide, nbrk_ascii _ _ (by decide)⟩), if_pos (by rw [e]; rfl), h]
theorem one_plain (l : List UInt8) (h1 : ¬ (decodeL l).1 < 32) (h2 : ¬ brk l) (h3 : ¬ (decodeL l).1 = 92) : one l = some (decodeL l) := by
  unfold one
  rw [if_neg (by rw [not_or]; exact ⟨h1, h2⟩), if_neg h3]

theorem hexv_hexd : ∀ n, n < 16 → hexv (hexd n).toNat = some n := by decide
theorem hexd_ascii : ∀ n, n < 16 → (hexd n).toNat < 128 := by decide
theorem v48 : hexv (48 : UInt8).toNat = some 0 := by decide
theorem w102 : hexv 102 = some 15 := by decide
theorem w100 : hexv 100 = some 13 := by decide
theorem v102 : hexv (102 : UInt8).toNat = some 15 := by decide
theorem v100 : hexv (100 : UInt8).toNat = some 13 := by decide
theorem ofNat_toNat (c : Nat) (h : c < 256) : (UInt8.ofNat c).toNat = c := by simp; omega

/-- the four forms of what is written of a character. -/
theorem esc_forms (l : List UInt8) :
    (brk l ∧ esc l = [92, 117, 102, 102, 102, 100]) ∨
    (∃ x : UInt8, esc l = [92, x] ∧ x.toNat < 128 ∧ ¬ x.toNat = 117 ∧ ∀ r, escL (92 :: x :: r) = some ((decodeL l).1, 2)) ∨
    ((decodeL l).1 < 32 ∧ esc l = [92, 117, 48, 48, hexd ((decodeL l).1 / 16), hexd ((decodeL l).1 % 16)]) ∨
    (¬ brk l ∧ ¬ (decodeL l).1 < 32 ∧ ¬ (decodeL l).1 = 34 ∧ ¬ (decodeL l).1 = 92 ∧ esc l = l.take (decodeL l).2) := by
  unfold esc
  by_cases hb : brk l
  · exact .inl ⟨hb, if_pos hb⟩
  · refine .inr ?_
    rw [if_neg hb]
    by_cases h8 : (decodeL l).1 = 8
    · rw [if_pos h8, h8]; exact .inl ⟨98, rfl, by decide, by decide, fun r => by simp [escL]⟩
    · rw [if_neg h8]
      by_cases h9 : (decodeL l).1 = 9
      · rw [if_pos h9, h9]; exact .inl ⟨116, rfl, by decide, by decide, fun r => by simp [escL]⟩
      · rw [if_neg h9]
        by_cases h10 : (decodeL l).1 = 10
        · rw [if_pos h10, h10]; exact .inl ⟨110, rfl, by decide, by decide, fun r => by simp [escL]⟩
        · rw [if_neg h10]
          by_cases h12 : (decodeL l).1 = 12
          · rw [if_pos h12, h12]; exact .inl ⟨102, rfl, by decide, by decide, fun r => by simp [escL]⟩
          · rw [if_neg h12]
            by_cases h13 : (decodeL l).1 = 13
            · rw [if_pos h13, h13]; exact .inl ⟨114, rfl, by decide, by decide, fun r => by simp [escL]⟩
            · rw [if_neg h13]
              by_cases h32 : (decodeL l).1 < 32
              · rw [if_pos h32]
                exact .inr (.inl ⟨h32, rfl⟩)
              · rw [if_neg h32]
                by_cases hq : (decodeL l).1 = 34 ∨ (decodeL l).1 = 92
                · rw [if_pos hq]
                  generalize (decodeL l).1 = c at *
                  have e : (UInt8.ofNat c).toNat = c := ofNat_toNat c (by omega)
                  refine .inl ⟨UInt8.ofNat c, rfl, by rw [e]; omega, by rw [e]; omega, fun r => ?_⟩
                  simp only [escL, e]
                  rcases hq with rfl | rfl <;> simp
                · rw [if_neg hq]
                  exact .inr (.inr ⟨hb, h32, by omega, by omega, rfl⟩)

theorem unitL_hexd (c : Nat) (h : c < 256) (r : List UInt8) : unitL (48 :: 48 :: hexd (c / 16) :: hexd (c % 16) :: r) = some c := by
  have e1 := hexv_hexd (c / 16) (by omega)
  have e2 := hexv_hexd (c % 16) (by omega)
  simp only [unitL, v48, e1, e2]
  congr 1
  omega

/-- what is written of a character is read as it. -/
theorem one_esc (l r : List UInt8) (hne : l ≠ []) : one (esc l ++ r) = some ((decodeL l).1, (esc l).length) := by
  rcases esc_forms l with ⟨hb, e⟩ | ⟨x, e, _, _, h⟩ | ⟨h, e⟩ | ⟨hb, h32, _, h92, e⟩
  · rw [e, hb.1]
    refine one_back _ _ _ _ ?_
    simp [escL, unitsL, unitU, unitL, w102, w100]
  · rw [e]
    exact one_back _ _ _ _ (h r)
  · rw [e]
    generalize (decodeL l).1 = c at *
    refine one_back _ _ _ _ ?_
    have hu := unitL_hexd c (by omega) r
    have hU : unitU (92 :: 117 :: 48 :: 48 :: hexd (c / 16) :: hexd (c % 16) :: r) = some c := by
      simp only [unitU, hu]; exact if_pos (by decide)
    have h1 : escL (92 :: 117 :: 48 :: 48 :: hexd (c / 16) :: hexd (c % 16) :: r) = unitsL (92 :: 117 :: 48 :: 48 :: hexd (c / 16) :: hexd (c % 16) :: r) := by
      rw [escL]; exact if_pos (by decide)
    show escL (92 :: 117 :: 48 :: 48 :: hexd (c / 16) :: hexd (c % 16) :: r) = _
    rw [h1]
    unfold unitsL
    rw [hU]
    simp only
    rw [if_neg (by omega), if_pos (.inl (by omega))]
    rfl
  · rw [e]
    have ed := dec_app l r hne hb
    have hle := decodeL_le l hne
    rw [one_plain _ (by rw [ed]; exact h32) (by rw [brk, ed]; exact hb) (by rw [ed]; exact h92), ed, List.length_take, Nat.min_eq_left hle]

theorem toNat_inj {a b : UInt8} (h : a.toNat = b.toNat) : a = b := UInt8.toNat_inj.1 h

/-- it begins with no quote. -/
theorem esc_head (l : List UInt8) (hne : l ≠ []) : ∃ b t, esc l = b :: t ∧ ¬ b.toNat = 34 := by
  rcases esc_forms l with ⟨hb, e⟩ | ⟨x, e, _, _, h⟩ | ⟨h, e⟩ | ⟨hb, h32, h34, h92, e⟩
  · exact ⟨_, _, e, by decide⟩
  · exact ⟨_, _, e, by decide⟩
  · exact ⟨_, _, e, by decide⟩
  · have hw := decodeL_width l
    obtain ⟨b, t, rfl⟩ : ∃ b t, l = b :: t := by
      cases l with
      | nil => exact absurd rfl hne
      | cons b t => exact ⟨b, t, rfl⟩
    obtain ⟨n, hn⟩ : ∃ n, (decodeL (b :: t)).2 = n + 1 := ⟨_, (Nat.succ_pred_eq_of_pos hw).symm⟩
    refine ⟨b, t.take n, by rw [e, hn]; rfl, fun h => h34 ?_⟩
    rw [decE b t (by omega)]
    exact h

/-- cut off it is none. -/
theorem one_short (l : List UInt8) (hne : l ≠ []) (k : Nat) (h0 : 0 < k) (hk : k < (esc l).length) : one ((esc l).take k) = none := by
  have key : ∀ x : List UInt8, escL (92 :: x) = none → one (92 :: x) = none := by
    intro x h
    have e := decE 92 x (by decide)
    unfold one
    rw [if_neg (by rw [not_or]; exact ⟨by rw [e]; decide, nbrk_ascii _ _ (by decide)⟩), if_pos (by rw [e]; rfl), h]
  rcases esc_forms l with ⟨hb, e⟩ | ⟨x, e, _, _, h⟩ | ⟨h, e⟩ | ⟨hb, h32, _, h92, e⟩
  · rw [e] at hk ⊢
    match k, h0, hk with
    | 1, _, _ => exact key _ rfl
    | 2, _, _ => exact key _ (by simp [escL, unitsL, unitU, unitL])
    | 3, _, _ => exact key _ (by simp [escL, unitsL, unitU, unitL])
    | 4, _, _ => exact key _ (by simp [escL, unitsL, unitU, unitL])
    | 5, _, _ => exact key _ (by simp [escL, unitsL, unitU, unitL])
  · rw [e] at hk ⊢
    match k, h0, hk with
    | 1, _, _ => exact key _ rfl
  · rw [e] at hk ⊢
    match k, h0, hk with
    | 1, _, _ => exact key _ rfl
    | 2, _, _ => exact key _ (by simp [escL, unitsL, unitU, unitL])
    | 3, _, _ => exact key _ (by simp [escL, unitsL, unitU, unitL])
    | 4, _, _ => exact key _ (by simp [escL, unitsL, unitU, unitL])
    | 5, _, _ => exact key _ (by simp [escL, unitsL, unitU, unitL])
  · rw [e, List.length_take] at hk
    rw [e, List.take_take, Nat.min_eq_left (by omega)]
    have ed := dec_short l hne hb k h0 (by omega)
    unfold one
    rw [if_pos (.inr (by rw [brk, ed]; exact ⟨rfl, rfl⟩))]

def mend (l : List UInt8) : List UInt8 := mapD (fun x => x) l
theorem mend_nil : mend [] = [] := rfl
theorem mend_step (l : List UInt8) (hne : l ≠ []) : mend l = encodeRune ((decodeL l).1 : Int) ++ mend (l.drop (decodeL l).2) := by
  unfold mend
  rw [mapD_step _ l hne, if_pos (by omega)]

theorem drop_lt (l : List UInt8) (hne : l ≠ []) : (l.drop (decodeL l).2).length < l.length := by
  have hw := decodeL_width l
  have hl : 0 < l.length := List.length_pos_iff.2 hne
  rw [List.length_drop]; omega

/-- what stands in quotes is read as it was. -/
theorem rd_quo (r : List UInt8) : ∀ (n : Nat) (l : List UInt8), l.length ≤ n → ∀ (out : List UInt8) (k : Nat), rd (quo l ++ 34 :: r) out k = some (out ++ mend l, k + (quo l).length + 1)
  | n, l, hn, out, k => by
    by_cases hne : l = []
    · subst hne
      rw [quo_nil, mend_nil, List.append_nil]
      exact rd_quote _ _ _ _ (by decide)
    · have hlt := drop_lt l hne
      obtain ⟨m, rfl⟩ : ∃ m, n = m + 1 := ⟨n - 1, by omega⟩
      rw [quo_step l hne, mend_step l hne, List.append_assoc]
      have h1 := one_esc l (quo (l.drop (decodeL l).2) ++ 34 :: r) hne
      obtain ⟨b, t, e, hb⟩ := esc_head l hne
      rw [e] at h1 ⊢
      rw [List.cons_append] at h1
      rw [List.cons_append, rd_some b _ out k _ _ hb h1, ← List.cons_append, List.drop_left, rd_quo r m _ (by omega)]
      simp [List.append_assoc]
      omega
theorem readL_quote (l r : List UInt8) : readL (quoteL l ++ r) = some (mend l, (quoteL l).length) := by
  unfold quoteL
  show (if (34 : UInt8).toNat = 34 then rd (quo l ++ [34] ++ r) [] 1 else none) = _
  rw [if_pos (by decide), List.append_assoc]
  show rd (quo l ++ 34 :: r) [] 1 = _
  rw [rd_quo r _ l (Nat.le_refl _)]
  simp
  omega

/-- cut off anywhere it is none. -/
theorem rd_short : ∀ (n : Nat) (l : List UInt8), l.length ≤ n → ∀ (j : Nat) (out : List UInt8) (k : Nat), rd ((quo l).take j) out k = none
  | n, l, hn, j, out, k => by
    by_cases hne : l = []
    · subst hne
      rw [quo_nil, List.take_nil, rd_nil]
    · have hlt := drop_lt l hne
      obtain ⟨m, rfl⟩ : ∃ m, n = m + 1 := ⟨n - 1, by omega⟩
      by_cases h0 : j = 0
      · subst h0; rw [List.take_zero, rd_nil]
      · rw [quo_step l hne]
        obtain ⟨b, t, e, hb⟩ := esc_head l hne
        by_cases hj : j < (esc l).length
        · have h1 := one_short l hne j (by omega) hj
          rw [List.take_append_of_le_length (by omega)]
          obtain ⟨i, rfl⟩ : ∃ i, j = i + 1 := ⟨j - 1, by omega⟩
          rw [e, List.take_succ_cons] at h1 ⊢
          exact rd_none b _ out k hb h1
        · rw [List.take_append, List.take_of_length_le (by omega)]
          have h1 := one_esc l ((quo (l.drop (decodeL l).2)).take (j - (esc l).length)) hne
          rw [e] at h1 ⊢
          rw [List.cons_append] at h1 ⊢
          rw [rd_some b _ out k _ _ hb h1, ← List.cons_append, List.drop_left]
          exact rd_short m _ (by omega) _ _ _
theorem readL_short (l : List UInt8) (j : Nat) (hj : j < (quoteL l).length) : readL ((quoteL l).take j) = none := by
  unfold quoteL at hj ⊢
  cases j with
  | zero => rfl
  | succ j =>
    rw [List.take_succ_cons]
    show (if (34 : UInt8).toNat = 34 then rd ((quo l ++ [34]).take j) [] 1 else none) = _
    rw [if_pos (by decide), List.take_append_of_le_length (by simp at hj; omega)]
    exact rd_short _ l (Nat.le_refl _) j _ _

/-- it is UTF-8. -/
theorem valid_app (l r : List UInt8) (hne : l ≠ []) (hb : ¬ brk l) : validD (l.take (decodeL l).2 ++ r) = validD r := by
  have e := dec_app l r hne hb
  have hle := decodeL_le l hne
  have hw := decodeL_width l
  have hl : (l.take (decodeL l).2).length = (decodeL l).2 := by rw [List.length_take]; omega
  have hne' : l.take (decodeL l).2 ++ r ≠ [] := by
    intro h
    have := congrArg List.length h
    rw [List.length_append, hl, List.length_nil] at this
    omega
  rw [validD_step _ hne', if_neg (by rw [e]; exact hb), e]
  generalize l.take (decodeL l).2 = x at *
  rw [← hl, List.drop_left]
theorem valid_esc (l r : List UInt8) (hne : l ≠ []) : validD (esc l ++ r) = validD r := by
  rcases esc_forms l with ⟨hb, e⟩ | ⟨x, e, hx, _, h⟩ | ⟨h, e⟩ | ⟨hb, h32, _, h92, e⟩
  · rw [e]
    simp only [List.cons_append, List.nil_append]
    rw [validD_cons _ _ (by decide), validD_cons _ _ (by decide), validD_cons _ _ (by decide), validD_cons _ _ (by decide), validD_cons _ _ (by decide), validD_cons _ _ (by decide)]
  · rw [e]
    simp only [List.cons_append, List.nil_append]
    rw [validD_cons _ _ (by decide), validD_cons _ _ hx]
  · rw [e]
    have e1 := hexd_ascii ((decodeL l).1 / 16) (by omega)
    have e2 := hexd_ascii ((decodeL l).1 % 16) (by omega)
    simp only [List.cons_append, List.nil_append]
    rw [validD_cons _ _ (by decide), validD_cons _ _ (by decide), validD_cons _ _ (by decide), validD_cons _ _ (by decide), validD_cons _ _ e1, validD_cons _ _ e2]
  · rw [e]
    exact valid_app l r hne hb
theorem valid_quo (r : List UInt8) : ∀ (n : Nat) (l : List UInt8), l.length ≤ n → validD (quo l ++ r) = validD r
  | n, l, hn => by
    by_cases hne : l = []
    · subst hne; rfl
    · have hlt := drop_lt l hne
      obtain ⟨m, rfl⟩ : ∃ m, n = m + 1 := ⟨n - 1, by omega⟩
      rw [quo_step l hne, List.append_assoc, valid_esc l _ hne, valid_quo r m _ (by omega)]
theorem valid_quote (l : List UInt8) : validD (quoteL l) = true := by
  unfold quoteL
  rw [validD_cons _ _ (by decide), valid_quo [34] _ l (Nat.le_refl _)]
  decide +kernel

theorem enc_bad : encodeRune 65533 = [239, 191, 189] := by decide +kernel
theorem valid_mend : ∀ (n : Nat) (l : List UInt8), l.length ≤ n → validD (mend l) = true
  | n, l, hn => by
    by_cases hne : l = []
    · subst hne; rfl
    · have hlt := drop_lt l hne
      obtain ⟨m, rfl⟩ : ∃ m, n = m + 1 := ⟨n - 1, by omega⟩
      rw [mend_step l hne]
      have ih := valid_mend m (l.drop (decodeL l).2) (by omega)
      by_cases hb : brk l
      · rw [hb.1]
        show validD (encodeRune 65533 ++ _) = true
        rw [enc_bad]
        have e := dec_three 239 191 189 (mend (l.drop (decodeL l).2)) (by decide) (by decide) (by decide) (by decide) (by decide)
        simp only [List.cons_append, List.nil_append]
        rw [validD_step _ (by simp), e, if_neg (by decide)]
        exact ih
      · rw [encode_decode l hne hb, valid_app l _ hne hb]
        exact ih
theorem mend_same : ∀ (n : Nat) (l : List UInt8), l.length ≤ n → validD l = true → mend l = l
  | n, l, hn, hv => by
    by_cases hne : l = []
    · subst hne; rfl
    · have hlt := drop_lt l hne
      obtain ⟨m, rfl⟩ : ∃ m, n = m + 1 := ⟨n - 1, by omega⟩
      rw [validD_step l hne] at hv
      split at hv
      · cases hv
      · rename_i hb
        rw [mend_step l hne, encode_decode l hne hb, mend_same m _ (by omega) hv, List.take_append_drop]
theorem valid_iff_mend (l : List UInt8) : validD l = decide (mend l = l) := by
  cases h : validD l
  · symm
    apply decide_eq_false
    intro e
    have := valid_mend _ l (Nat.le_refl _)
    rw [e, h] at this
    cases this
  · exact (decide_eq_true (mend_same _ l (Nat.le_refl _) h)).symm
end Go.Proofs.YtfpkkobclkdniaaGreatDoor

namespace Go.Proofs.YtfpkkobclkdniaaGreatDoor

abbrev isBl (b : UInt8) : Prop := b.toNat = 9 ∨ b.toNat = 10 ∨ b.toNat = 13 ∨ b.toNat = 32
abbrev isDg (b : UInt8) : Prop := 48 ≤ b.toNat ∧ b.toNat ≤ 57

/-- what stands behind the blanks. -/
def skip : List UInt8 → List UInt8
  | [] => []
  | b :: t => if isBl b then skip t else b :: t

def nulV : V := ⟨0, 0, ⟨#[]⟩, [], []⟩
def boolV (n : Int) : V := ⟨1, n, ⟨#[]⟩, [], []⟩
def intV (n : Int) : V := ⟨2, n, ⟨#[]⟩, [], []⟩
def textV (s : ByteArray) : V := ⟨3, 0, s, [], []⟩
def listV (l : List V) : V := ⟨4, 0, ⟨#[]⟩, l, []⟩
def objV (l : List (ByteArray × V)) : V := ⟨5, 0, ⟨#[]⟩, [], l⟩

/-- how many digits stand ahead. -/
def digs : List UInt8 → Nat
  | [] => 0
  | b :: t => if isDg b then digs t + 1 else 0

/-- the byte ahead, 0 if there is none. -/
def hd : List UInt8 → Nat
  | [] => 0
  | b :: _ => b.toNat

/-- how many digits are a number's; none: they are wrong. -/
def digN (l : List UInt8) : Option Nat :=
  if hd l = 48 then (if 48 ≤ hd (l.drop 1) ∧ hd (l.drop 1) ≤ 57 then none else some 1)
  else if digs l = 0 then none else some (digs l)

def sgn (l : List UInt8) : Nat := if hd l = 45 then 1 else 0

def numEnd (l : List UInt8) (k : Nat) : Except Int (V × List UInt8) :=
  if hd (l.drop k) = 46 ∨ hd (l.drop k) = 101 ∨ hd (l.drop k) = 69 then .error 4
  else match Lib.parseIntB 64 (l.take k) with
    | .ok v => .ok (intV v, l.drop k)
    | _ => .error 4

def numP (l : List UInt8) : Except Int (V × List UInt8) :=
  match digN (l.drop (sgn l)) with
  | none => .error 1
  | some k => numEnd l (sgn l + k)

def textP (l : List UInt8) : Except Int (V × List UInt8) :=
  match readL l with
  | none => .error 1
  | some r => .ok (textV ⟨r.1.toArray⟩, l.drop r.2)

abbrev wNull : List UInt8 := [110, 117, 108, 108]
abbrev wFalse : List UInt8 := [102, 97, 108, 115, 101]
abbrev wTrue : List UInt8 := [116, 114, 117, 101]
def wordP (l : List UInt8) : Except Int (V × List UInt8) :=
  if Lib.hasPrefix l wNull = true then .ok (nulV, l.drop 4)
  else if Lib.hasPrefix l wFalse = true then .ok (boolV 0, l.drop 5)
  else if Lib.hasPrefix l wTrue = true then .ok (boolV 1, l.drop 4)
  else .error 1

/-- behind a thing in a list or an object: true: it ends. -/
def endsP (c : Nat) (l : List UInt8) : Option (Bool × List UInt8) :=
  if hd (skip l) = c then some (true, (skip l).drop 1)
  else if hd (skip l) = 44 then some (false, (skip l).drop 1)
  else none

def elemsP (g : List UInt8 → Except Int (V × List UInt8)) : Nat → List V → List UInt8 → Except Int (List V × List UInt8)
  | 0, _, _ => .error 1
  | m + 1, acc, l =>
    match g l with
    | .error e => .error e
    | .ok r =>
      match endsP 93 r.2 with
      | none => .error 1
      | some (true, t) => .ok (acc ++ [r.1], t)
      | some (false, t) => elemsP g m (acc ++ [r.1]) t

def fieldP (g : List UInt8 → Except Int (V × List UInt8)) (fs : List (ByteArray × V)) (l : List UInt8) : Except Int (List (ByteArray × V) × List UInt8) :=
  match readL (skip l) with
  | none => .error 1
  | some r =>
    if (getF ⟨r.1.toArray⟩ fs).isSome = true then .error 5
    else if hd (skip ((skip l).drop r.2)) = 58 then
      match g ((skip ((skip l).drop r.2)).drop 1) with
      | .error e => .error e
      | .ok x => .ok (setF ⟨r.1.toArray⟩ x.1 fs, x.2)
    else .error 1

def membsP (g : List UInt8 → Except Int (V × List UInt8)) : Nat → List (ByteArray × V) → List UInt8 → Except Int (List (ByteArray × V) × List UInt8)
  | 0, _, _ => .error 1
  | m + 1, fs, l =>
    match fieldP g fs l with
    | .error e => .error e
    | .ok r =>
      match endsP 125 r.2 with
      | none => .error 1
      | some (true, t) => .ok (r.1, t)
      | some (false, t) => membsP g m r.1 t

def listP (g : List UInt8 → Except Int (V × List UInt8)) (t : List UInt8) : Except Int (V × List UInt8) :=
  if hd (skip t) = 93 then .ok (listV [], (skip t).drop 1)
  else match elemsP g ((skip t).length + 1) [] (skip t) with
    | .error e => .error e
    | .ok r => .ok (listV r.1, r.2)

def objP (g : List UInt8 → Except Int (V × List UInt8)) (t : List UInt8) : Except Int (V × List UInt8) :=
  if hd (skip t) = 125 then .ok (objV [], (skip t).drop 1)
  else match membsP g ((skip t).length + 1) [] (skip t) with
    | .error e => .error e
    | .ok r => .ok (objV r.1, r.2)

/-- the value at a place, n deep at most. -/
def valueP : Nat → List UInt8 → Except Int (V × List UInt8)
  | 0, _ => .error 2
  | n + 1, l =>
    if hd (skip l) = 45 ∨ (48 ≤ hd (skip l) ∧ hd (skip l) ≤ 57) then numP (skip l)
    else if hd (skip l) = 34 then textP (skip l)
    else if hd (skip l) = 91 then listP (valueP n) ((skip l).drop 1)
    else if hd (skip l) = 123 then objP (valueP n) ((skip l).drop 1)
    else wordP (skip l)

def parseP (l : List UInt8) : Except Int V :=
  if 4096 < l.length then .error 3
  else match valueP 16 l with
    | .error e => .error e
    | .ok r => if skip r.2 = [] then .ok r.1 else .error 1

theorem skip_skip : ∀ l, skip (skip l) = skip l
  | [] => rfl
  | b :: t => by
    by_cases h : isBl b
    · simp only [skip, if_pos h]; exact skip_skip t
    · simp only [skip, if_neg h]
theorem skip_len : ∀ l, (skip l).length ≤ l.length
  | [] => Nat.le_refl _
  | b :: t => by
    by_cases h : isBl b
    · simp only [skip, if_pos h, List.length_cons]; have := skip_len t; omega
    · simp only [skip, if_neg h]; omega
theorem skip_drop : ∀ l : List UInt8, ∃ n, n ≤ l.length ∧ skip l = l.drop n
  | [] => ⟨0, Nat.le_refl _, rfl⟩
  | b :: t => by
    by_cases h : isBl b
    · obtain ⟨n, h1, h2⟩ := skip_drop t
      exact ⟨n + 1, by simp only [List.length_cons]; omega, by simp only [skip, if_pos h, h2, List.drop_succ_cons]⟩
    · exact ⟨0, Nat.zero_le _, by simp only [skip, if_neg h, List.drop_zero]⟩
theorem hd_drop_lt {l : List UInt8} {c : Nat} (h : hd l = c) (hc : c ≠ 0) : 0 < l.length := by
  cases l with
  | nil => simp only [hd] at h; omega
  | cons b t => simp

/-- r is a part at the end of l. -/
def Tail (r l : List UInt8) : Prop := ∃ n, n ≤ l.length ∧ r = l.drop n
theorem Tail.refl (l : List UInt8) : Tail l l := ⟨0, Nat.zero_le _, rfl⟩
theorem Tail.trans {a b c : List UInt8} (h : Tail a b) (k : Tail b c) : Tail a c := by
  obtain ⟨n, h1, rfl⟩ := h
  obtain ⟨m, h2, rfl⟩ := k
  rw [List.length_drop] at h1
  exact ⟨m + n, by omega, by rw [List.drop_drop]⟩
theorem Tail.drop (l : List UInt8) (n : Nat) : Tail (l.drop n) l := by
  by_cases h : n ≤ l.length
  · exact ⟨n, h, rfl⟩
  · exact ⟨l.length, Nat.le_refl _, by rw [List.drop_length, List.drop_eq_nil_of_le (by omega)]⟩
theorem Tail.skip (l : List UInt8) : Tail (skip l) l := skip_drop l
theorem Tail.len {a b : List UInt8} (h : Tail a b) : a.length ≤ b.length := by
  obtain ⟨n, _, rfl⟩ := h
  rw [List.length_drop]; omega

theorem num_tail {l : List UInt8} {x : V × List UInt8} (h : numP l = .ok x) : Tail x.2 l := by
  unfold numP at h
  split at h
  · cases h
  · unfold numEnd at h
    split at h
    · cases h
    · split at h
      · cases h; exact Tail.drop _ _
      · cases h
theorem text_tail {l : List UInt8} {x : V × List UInt8} (h : textP l = .ok x) : Tail x.2 l := by
  unfold textP at h
  split at h
  · cases h
  · cases h; exact Tail.drop _ _
theorem word_tail {l : List UInt8} {x : V × List UInt8} (h : wordP l = .ok x) : Tail x.2 l := by
  unfold wordP at h
  repeat' split at h
  all_goals first | (cases h; exact Tail.drop _ _) | cases h
theorem ends_tail {c : Nat} {l t : List UInt8} {b : Bool} (h : endsP c l = some (b, t)) : Tail t l := by
  unfold endsP at h
  split at h
  · cases h; exact (Tail.drop _ _).trans (Tail.skip _)
  · split at h
    · cases h; exact (Tail.drop _ _).trans (Tail.skip _)
    · cases h
/-- a comma is read: what is left is shorter. -/
theorem ends_less {c : Nat} (hc : c ≠ 0) {l t : List UInt8} {b : Bool} (h : endsP c l = some (b, t)) : t.length < l.length := by
  have h1 := skip_len l
  unfold endsP at h
  split at h
  · rename_i h0
    cases h
    have := hd_drop_lt h0 hc
    rw [List.length_drop]; omega
  · split at h
    · rename_i h0
      cases h
      have := hd_drop_lt h0 (by decide)
      rw [List.length_drop]; omega
    · cases h
theorem elems_tail {g : List UInt8 → Except Int (V × List UInt8)} (hg : ∀ l x, g l = .ok x → Tail x.2 l) : ∀ (m : Nat) (acc : List V) (l : List UInt8) (x : List V × List UInt8), elemsP g m acc l = .ok x → Tail x.2 l
  | 0, _, _, _, h => by cases h
  | m + 1, acc, l, x, h => by
    simp only [elemsP] at h
    split at h
    · cases h
    · rename_i r hr
      split at h
      · cases h
      · rename_i t he
        cases h
        exact (ends_tail he).trans (hg _ _ hr)
      · rename_i t he
        exact (elems_tail hg m _ _ _ h).trans ((ends_tail he).trans (hg _ _ hr))
theorem field_tail {g : List UInt8 → Except Int (V × List UInt8)} (hg : ∀ l x, g l = .ok x → Tail x.2 l) {fs : List (ByteArray × V)} {l : List UInt8} {x : List (ByteArray × V) × List UInt8} (h : fieldP g fs l = .ok x) : Tail x.2 l := by
  unfold fieldP at h
  split at h
  · cases h
  · split at h
    · cases h
    · split at h
      · split at h
        · cases h
        · rename_i hr
          cases h
          exact (hg _ _ hr).trans ((Tail.drop _ _).trans ((Tail.skip _).trans ((Tail.drop _ _).trans (Tail.skip _))))
      · cases h
theorem membs_tail {g : List UInt8 → Except Int (V × List UInt8)} (hg : ∀ l x, g l = .ok x → Tail x.2 l) : ∀ (m : Nat) (acc : List (ByteArray × V)) (l : List UInt8) (x : List (ByteArray × V) × List UInt8), membsP g m acc l = .ok x → Tail x.2 l
  | 0, _, _, _, h => by cases h
  | m + 1, acc, l, x, h => by
    simp only [membsP] at h
    split at h
    · cases h
    · rename_i r hr
      split at h
      · cases h
      · rename_i t he
        cases h
        exact (ends_tail he).trans (field_tail hg hr)
      · rename_i t he
        exact (membs_tail hg m _ _ _ h).trans ((ends_tail he).trans (field_tail hg hr))
theorem list_tail {g : List UInt8 → Except Int (V × List UInt8)} (hg : ∀ l x, g l = .ok x → Tail x.2 l) {l : List UInt8} {x : V × List UInt8} (h : listP g l = .ok x) : Tail x.2 l := by
  unfold listP at h
  split at h
  · cases h; exact (Tail.drop _ _).trans (Tail.skip _)
  · split at h
    · cases h
    · rename_i hr
      cases h
      exact (elems_tail hg _ _ _ _ hr).trans (Tail.skip _)
theorem obj_tail {g : List UInt8 → Except Int (V × List UInt8)} (hg : ∀ l x, g l = .ok x → Tail x.2 l) {l : List UInt8} {x : V × List UInt8} (h : objP g l = .ok x) : Tail x.2 l := by
  unfold objP at h
  split at h
  · cases h; exact (Tail.drop _ _).trans (Tail.skip _)
  · split at h
    · cases h
    · rename_i hr
      cases h
      exact (membs_tail hg _ _ _ _ hr).trans (Tail.skip _)
theorem value_tail : ∀ (n : Nat) (l : List UInt8) (x : V × List UInt8), valueP n l = .ok x → Tail x.2 l
  | 0, _, _, h => by cases h
  | n + 1, l, x, h => by
    simp only [valueP] at h
    split at h
    · exact (num_tail h).trans (Tail.skip _)
    · split at h
      · exact (text_tail h).trans (Tail.skip _)
      · split at h
        · exact ((list_tail (value_tail n) h).trans (Tail.drop _ _)).trans (Tail.skip _)
        · split at h
          · exact ((obj_tail (value_tail n) h).trans (Tail.drop _ _)).trans (Tail.skip _)
          · exact (word_tail h).trans (Tail.skip _)

/-! ### printing -/

def sepBy : List (List UInt8) → List UInt8
  | [] => []
  | [x] => x
  | x :: y :: r => x ++ 44 :: sepBy (y :: r)

def printV : Nat → V → List UInt8
  | 0, _ => []
  | n + 1, v =>
    if v.kind = 0 then wNull
    else if v.kind = 1 then (if v.num = 1 then wTrue else wFalse)
    else if v.kind = 2 then Lib.itoa v.num
    else if v.kind = 3 then quoteL v.text.data.toList
    else if v.kind = 4 then 91 :: (sepBy (v.list.map (printV n)) ++ [93])
    else if v.kind = 5 then 123 :: (sepBy (v.fields.map fun f => quoteL f.1.data.toList ++ 58 :: printV n f.2) ++ [125])
    else []
end Go.Proofs.YtfpkkobclkdniaaGreatDoor

namespace Go.Proofs.YtfpkkobclkdniaaGreatDoor
open Go.RowKit

theorem U8.later {w w' : World} (h : U8 w) (hb : Below w.heap.size w w') : U8 w' := by
  refine ⟨fun c hc => ?_, fun i hi => ⟨?_, ?_⟩⟩
  · rw [hb.cell (lt_of_cell (h.1 c hc))]; exact h.1 c hc
  · rw [hb.cell (lt_of_cell (h.2 i hi).1)]; exact (h.2 i hi).1
  · rw [hb.cell (lt_of_cell (h.2 i hi).2)]; exact (h.2 i hi).2

/-- a value with nothing beside its kind, and texts that are UTF-8. -/
def VOk : Nat → V → Prop
  | 0, v => v = nulV ∨ (v = boolV 0 ∨ v = boolV 1) ∨ (∃ m, v = intV m) ∨ (∃ t, v = textV t ∧ t.size ≤ 1000000 ∧ Lib.validD t.data.toList = true) ∨ v = listV [] ∨ v = objV []
  | n + 1, v => v = nulV ∨ (v = boolV 0 ∨ v = boolV 1) ∨ (∃ m, v = intV m) ∨ (∃ t, v = textV t ∧ t.size ≤ 1000000 ∧ Lib.validD t.data.toList = true) ∨ (∃ l, v = listV l ∧ ∀ x ∈ l, VOk n x) ∨ (∃ f, v = objV f ∧ Rises f ∧ ∀ p ∈ f, p.1.size ≤ 1000000 ∧ Lib.validD p.1.data.toList = true ∧ VOk n p.2)

theorem str_ge {p q : ByteArray} (h : cmpT p q < 0) : Op.bytesLess p.toList q.toList = true := by
  rw [bytesLess_eq]
  exact decide_eq_true h

end Go.Proofs.YtfpkkobclkdniaaGreatDoor
