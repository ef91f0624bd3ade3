/-
  The law's way of reading, plain: a 0 with a digit behind it is read, and the digit is then wrong. Conditions: as stated.
-/
import Derived.Test.YtdcaohnaiepllaaGreatDoorU2
namespace Go.Proofs.YtdcaohnaiepllaaGreatDoor

def digW (l : List UInt8) : Option Nat :=
  if hd l = 48 then some 1
  else if digs l = 0 then none else some (digs l)
def numW (l : List UInt8) : Except Int (V × List UInt8) :=
  match digW (l.drop (sgn l)) with
  | none => .error 1
  | some k => numEnd l (sgn l + k)
def valueW : Nat → List UInt8 → Except Int (V × List UInt8)
  | 0, _ => .error 2
  | n + 1, l =>
    if hd (skip l) = 45 ∨ (48 ≤ hd (skip l) ∧ hd (skip l) ≤ 57) then numW (skip l)
    else if hd (skip l) = 34 then textP (skip l)
    else if hd (skip l) = 91 then listP (valueW n) ((skip l).drop 1)
    else if hd (skip l) = 123 then objP (valueW n) ((skip l).drop 1)
    else wordP (skip l)
def parseW (l : List UInt8) : Except Int V :=
  if 4096 < l.length then .error 3
  else match valueW 16 l with
    | .error e => .error e
    | .ok r => if skip r.2 = [] then .ok r.1 else .error 1
/-- the same; or wrong, where the other one leaves a digit. -/
def Near (a b : Except Int (V × List UInt8)) : Prop := a = b ∨ (a = .error 1 ∧ ∃ x r, b = .ok (x, r) ∧ 48 ≤ hd r ∧ hd r ≤ 57)
theorem skip_dig {r : List UInt8} (h1 : 48 ≤ hd r) (h2 : hd r ≤ 57) : skip r = r := by
  cases r with
  | nil => rfl
  | cons b t =>
    have h1 : 48 ≤ b.toNat := h1
    have h2 : b.toNat ≤ 57 := h2
    have : ¬ isBl b := by unfold isBl; omega
    simp only [skip, if_neg this]
theorem ends_dig {c : Nat} {r : List UInt8} (hc : c = 93 ∨ c = 125) (h1 : 48 ≤ hd r) (h2 : hd r ≤ 57) : endsP c r = none := by
  unfold endsP
  rw [skip_dig h1 h2, if_neg (by omega), if_neg (by omega)]
theorem hd_cons {l : List UInt8} {c : Nat} (h : hd l = c) (hc : c ≠ 0) : ∃ b t, l = b :: t ∧ b.toNat = c := by
  cases l with
  | nil => simp only [hd] at h; omega
  | cons b t => exact ⟨b, t, rfl, h⟩
theorem num_near (l : List UInt8) : Near (numP l) (numW l) := by
  unfold numP numW digN digW
  by_cases h48 : hd (l.drop (sgn l)) = 48
  · rw [if_pos h48, if_pos h48]
    by_cases hd2 : 48 ≤ hd ((l.drop (sgn l)).drop 1) ∧ hd ((l.drop (sgn l)).drop 1) ≤ 57
    · rw [if_pos hd2]
      right
      refine ⟨rfl, ?_⟩
      rw [List.drop_drop] at hd2
      show ∃ x r, numEnd l (sgn l + 1) = .ok (x, r) ∧ _
      unfold numEnd
      rw [if_neg (by omega)]
      have hp : Lib.parseIntB 64 (l.take (sgn l + 1)) = .ok 0 := by
        obtain ⟨b, t, e, hb⟩ := hd_cons h48 (by decide)
        have hb48 : b = 48 := UInt8.toNat_inj.1 (by rw [hb]; rfl)
        subst hb48
        unfold sgn at e ⊢
        split
        · rename_i h45
          obtain ⟨c, t2, rfl, hc⟩ := hd_cons h45 (by decide)
          have hc45 : c = 45 := UInt8.toNat_inj.1 (by rw [hc]; rfl)
          subst hc45
          rw [if_pos (by rfl)] at e
          simp only [List.drop_succ_cons, List.drop_zero] at e
          subst e
          show Lib.parseIntB 64 [45, 48] = .ok 0
          kernel_rfl
        · rename_i h45
          rw [if_neg h45] at e
          simp only [List.drop_zero] at e
          subst e
          show Lib.parseIntB 64 [48] = .ok 0
          kernel_rfl
      rw [hp]
      exact ⟨_, _, rfl, hd2.1, hd2.2⟩
    · rw [if_neg hd2]
      exact .inl rfl
  · rw [if_neg h48, if_neg h48]
    exact .inl rfl
section
variable {g g' : List UInt8 → Except Int (V × List UInt8)} (hg : ∀ l, Near (g l) (g' l))
include hg
theorem elems_near : ∀ (m : Nat) (acc : List V) (l : List UInt8), elemsP g m acc l = elemsP g' m acc l
  | 0, _, _ => rfl
  | m + 1, acc, l => by
    simp only [elemsP]
    rcases hg l with e | ⟨e, x, r, e', h1, h2⟩
    · rw [e]
      cases g' l with
      | error c => rfl
      | ok p =>
        simp only
        split
        · rfl
        · rfl
        · exact elems_near m _ _
    · rw [e, e']
      simp only [ends_dig (.inl rfl) h1 h2]
theorem membs_near : ∀ (m : Nat) (fs : List (ByteArray × V)) (l : List UInt8), membsP g m fs l = membsP g' m fs l
  | 0, _, _ => rfl
  | m + 1, fs, l => by
    simp only [membsP, fieldP]
    cases readL (skip l) with
    | none => rfl
    | some p =>
      by_cases c1 : (getF ⟨p.1.toArray⟩ fs).isSome = true
      · simp only [if_pos c1]
      · by_cases c2 : hd (skip ((skip l).drop p.2)) = 58
        · simp only [if_neg c1, if_pos c2]
          rcases hg ((skip ((skip l).drop p.2)).drop 1) with e | ⟨e, x, r, e', h1, h2⟩
          · rw [e]
            cases g' ((skip ((skip l).drop p.2)).drop 1) with
            | error c => rfl
            | ok q =>
              simp only
              split
              · rfl
              · rfl
              · exact membs_near m _ _
          · rw [e, e']
            simp only [ends_dig (.inr rfl) h1 h2]
        · simp only [if_neg c1, if_neg c2]
theorem list_near (t : List UInt8) : listP g t = listP g' t := by
  unfold listP
  rw [elems_near hg]
theorem obj_near (t : List UInt8) : objP g t = objP g' t := by
  unfold objP
  rw [membs_near hg]
end
theorem value_near : ∀ (n : Nat) (l : List UInt8), Near (valueP n l) (valueW n l)
  | 0, _ => .inl rfl
  | n + 1, l => by
    unfold valueP valueW
    split
    · exact num_near _
    · split
      · exact .inl rfl
      · split
        · exact .inl (list_near (value_near n) _)
        · split
          · exact .inl (obj_near (value_near n) _)
          · exact .inl rfl
theorem parse_near (l : List UInt8) : parseP l = parseW l := by
  unfold parseP parseW
  split
  · rfl
  · rcases value_near 16 l with e | ⟨e, x, r, e', h1, h2⟩
    · rw [e]
      cases valueW 16 l <;> rfl
    · rw [e, e']
      have : ¬ skip r = [] := by
        rw [skip_dig h1 h2]
        intro h
        rw [h] at h1
        simp [hd] at h1
      simp only [if_neg this]
end Go.Proofs.YtdcaohnaiepllaaGreatDoor
