/-
  JSON as plain functions of bytes: reading and printing of values. No conditions beyond those stated.
-/
import Derived.Test.YtdcaohnaiepllaaGreatDoorVPure
import Derived.Test.YtdcaohnaiepllaaGreatDoorTPure2
import Derived.Lib.ParseIntB
import Derived.Lib.ItoaNum
namespace Go.Proofs.YtdcaohnaiepllaaGreatDoor

abbrev isBl (b : UInt8) : Prop := b.toNat = 9 ∨ b.toNat = 10 ∨ b.toNat = 13 ∨ b.toNat = 32
abbrev isDg (b : UInt8) : Prop := 48 ≤ b.toNat ∧ b.toNat ≤ 57

/-- what stands behind the blanks. -/
def skip : List UInt8 → List UInt8
  | [] => []
  | b :: t => if isBl b then skip t else b :: t

def nulV : V := ⟨0, 0, ⟨#[]⟩, [], []⟩
def boolV (n : Int) : V := ⟨1, n, ⟨#[]⟩, [], []⟩
def intV (n : Int) : V := ⟨2, n, ⟨#[]⟩, [], []⟩
def textV (s : ByteArray) : V := ⟨3, 0, s, [], []⟩
def listV (l : List V) : V := ⟨4, 0, ⟨#[]⟩, l, []⟩
def objV (l : List (ByteArray × V)) : V := ⟨5, 0, ⟨#[]⟩, [], l⟩

/-- how many digits stand ahead. -/
def digs : List UInt8 → Nat
  | [] => 0
  | b :: t => if isDg b then digs t + 1 else 0

/-- the byte ahead, 0 if there is none. -/
def hd : List UInt8 → Nat
  | [] => 0
  | b :: _ => b.toNat

/-- how many digits are a number's; none: they are wrong. -/
def digN (l : List UInt8) : Option Nat :=
  if hd l = 48 then (if 48 ≤ hd (l.drop 1) ∧ hd (l.drop 1) ≤ 57 then none else some 1)
  else if digs l = 0 then none else some (digs l)

def sgn (l : List UInt8) : Nat := if hd l = 45 then 1 else 0

def numEnd (l : List UInt8) (k : Nat) : Except Int (V × List UInt8) :=
  if hd (l.drop k) = 46 ∨ hd (l.drop k) = 101 ∨ hd (l.drop k) = 69 then .error 4
  else match Lib.parseIntB 64 (l.take k) with
    | .ok v => .ok (intV v, l.drop k)
    | _ => .error 4

def numP (l : List UInt8) : Except Int (V × List UInt8) :=
  match digN (l.drop (sgn l)) with
  | none => .error 1
  | some k => numEnd l (sgn l + k)

def textP (l : List UInt8) : Except Int (V × List UInt8) :=
  match readL l with
  | none => .error 1
  | some r => .ok (textV ⟨r.1.toArray⟩, l.drop r.2)

abbrev wNull : List UInt8 := [110, 117, 108, 108]
abbrev wFalse : List UInt8 := [102, 97, 108, 115, 101]
abbrev wTrue : List UInt8 := [116, 114, 117, 101]
def wordP (l : List UInt8) : Except Int (V × List UInt8) :=
  if Lib.hasPrefix l wNull = true then .ok (nulV, l.drop 4)
  else if Lib.hasPrefix l wFalse = true then .ok (boolV 0, l.drop 5)
  else if Lib.hasPrefix l wTrue = true then .ok (boolV 1, l.drop 4)
  else .error 1

/-- behind a thing in a list or an object: true: it ends. -/
def endsP (c : Nat) (l : List UInt8) : Option (Bool × List UInt8) :=
  if hd (skip l) = c then some (true, (skip l).drop 1)
  else if hd (skip l) = 44 then some (false, (skip l).drop 1)
  else none

def elemsP (g : List UInt8 → Except Int (V × List UInt8)) : Nat → List V → List UInt8 → Except Int (List V × List UInt8)
  | 0, _, _ => .error 1
  | m + 1, acc, l =>
    match g l with
    | .error e => .error e
    | .ok r =>
      match endsP 93 r.2 with
      | none => .error 1
      | some (true, t) => .ok (acc ++ [r.1], t)
      | some (false, t) => elemsP g m (acc ++ [r.1]) t

def fieldP (g : List UInt8 → Except Int (V × List UInt8)) (fs : List (ByteArray × V)) (l : List UInt8) : Except Int (List (ByteArray × V) × List UInt8) :=
  match readL (skip l) with
  | none => .error 1
  | some r =>
    if (getF ⟨r.1.toArray⟩ fs).isSome = true then .error 5
    else if hd (skip ((skip l).drop r.2)) = 58 then
      match g ((skip ((skip l).drop r.2)).drop 1) with
      | .error e => .error e
      | .ok x => .ok (setF ⟨r.1.toArray⟩ x.1 fs, x.2)
    else .error 1

def membsP (g : List UInt8 → Except Int (V × List UInt8)) : Nat → List (ByteArray × V) → List UInt8 → Except Int (List (ByteArray × V) × List UInt8)
  | 0, _, _ => .error 1
  | m + 1, fs, l =>
    match fieldP g fs l with
    | .error e => .error e
    | .ok r =>
      match endsP 125 r.2 with
      | none => .error 1
      | some (true, t) => .ok (r.1, t)
      | some (false, t) => membsP g m r.1 t

def listP (g : List UInt8 → Except Int (V × List UInt8)) (t : List UInt8) : Except Int (V × List UInt8) :=
  if hd (skip t) = 93 then .ok (listV [], (skip t).drop 1)
  else match elemsP g ((skip t).length + 1) [] (skip t) with
    | .error e => .error e
    | .ok r => .ok (listV r.1, r.2)

def objP (g : List UInt8 → Except Int (V × List UInt8)) (t : List UInt8) : Except Int (V × List UInt8) :=
  if hd (skip t) = 125 then .ok (objV [], (skip t).drop 1)
  else match membsP g ((skip t).length + 1) [] (skip t) with
    | .error e => .error e
    | .ok r => .ok (objV r.1, r.2)

/-- the value at a place, n deep at most. -/
def valueP : Nat → List UInt8 → Except Int (V × List UInt8)
  | 0, _ => .error 2
  | n + 1, l =>
    if hd (skip l) = 45 ∨ (48 ≤ hd (skip l) ∧ hd (skip l) ≤ 57) then numP (skip l)
    else if hd (skip l) = 34 then textP (skip l)
    else if hd (skip l) = 91 then listP (valueP n) ((skip l).drop 1)
    else if hd (skip l) = 123 then objP (valueP n) ((skip l).drop 1)
    else wordP (skip l)

def parseP (l : List UInt8) : Except Int V :=
  if 4096 < l.length then .error 3
  else match valueP 16 l with
    | .error e => .error e
    | .ok r => if skip r.2 = [] then .ok r.1 else .error 1

theorem skip_skip : ∀ l, skip (skip l) = skip l
  | [] => rfl
  | b :: t => by
    by_cases h : isBl b
    · simp only [skip, if_pos h]; exact skip_skip t
    · simp only [skip, if_neg h]
theorem skip_len : ∀ l, (skip l).length ≤ l.length
  | [] => Nat.le_refl _
  | b :: t => by
    by_cases h : isBl b
    · simp only [skip, if_pos h, List.length_cons]; have := skip_len t; omega
    · simp only [skip, if_neg h]; omega
theorem skip_drop : ∀ l : List UInt8, ∃ n, n ≤ l.length ∧ skip l = l.drop n
  | [] => ⟨0, Nat.le_refl _, rfl⟩
  | b :: t => by
    by_cases h : isBl b
    · obtain ⟨n, h1, h2⟩ := skip_drop t
      exact ⟨n + 1, by simp only [List.length_cons]; omega, by simp only [skip, if_pos h, h2, List.drop_succ_cons]⟩
    · exact ⟨0, Nat.zero_le _, by simp only [skip, if_neg h, List.drop_zero]⟩
theorem hd_drop_lt {l : List UInt8} {c : Nat} (h : hd l = c) (hc : c ≠ 0) : 0 < l.length := by
  cases l with
  | nil => simp only [hd] at h; omega
  | cons b t => simp

/-- r is a part at the end of l. -/
def Tail (r l : List UInt8) : Prop := ∃ n, n ≤ l.length ∧ r = l.drop n
theorem Tail.refl (l : List UInt8) : Tail l l := ⟨0, Nat.zero_le _, rfl⟩
theorem Tail.trans {a b c : List UInt8} (h : Tail a b) (k : Tail b c) : Tail a c := by
  obtain ⟨n, h1, rfl⟩ := h
  obtain ⟨m, h2, rfl⟩ := k
  rw [List.length_drop] at h1
  exact ⟨m + n, by omega, by rw [List.drop_drop]⟩
theorem Tail.drop (l : List UInt8) (n : Nat) : Tail (l.drop n) l := by
  by_cases h : n ≤ l.length
  · exact ⟨n, h, rfl⟩
  · exact ⟨l.length, Nat.le_refl _, by rw [List.drop_length, List.drop_eq_nil_of_le (by omega)]⟩
theorem Tail.skip (l : List UInt8) : Tail (skip l) l := skip_drop l
theorem Tail.len {a b : List UInt8} (h : Tail a b) : a.length ≤ b.length := by
  obtain ⟨n, _, rfl⟩ := h
  rw [List.length_drop]; omega

theorem num_tail {l : List UInt8} {x : V × List UInt8} (h : numP l = .ok x) : Tail x.2 l := by
  unfold numP at h
  split at h
  · cases h
  · unfold numEnd at h
    split at h
    · cases h
    · split at h
      · cases h; exact Tail.drop _ _
      · cases h
theorem text_tail {l : List UInt8} {x : V × List UInt8} (h : textP l = .ok x) : Tail x.2 l := by
  unfold textP at h
  split at h
  · cases h
  · cases h; exact Tail.drop _ _
theorem word_tail {l : List UInt8} {x : V × List UInt8} (h : wordP l = .ok x) : Tail x.2 l := by
  unfold wordP at h
  repeat' split at h
  all_goals first | (cases h; exact Tail.drop _ _) | cases h
theorem ends_tail {c : Nat} {l t : List UInt8} {b : Bool} (h : endsP c l = some (b, t)) : Tail t l := by
  unfold endsP at h
  split at h
  · cases h; exact (Tail.drop _ _).trans (Tail.skip _)
  · split at h
    · cases h; exact (Tail.drop _ _).trans (Tail.skip _)
    · cases h
/-- a comma is read: what is left is shorter. -/
theorem ends_less {c : Nat} (hc : c ≠ 0) {l t : List UInt8} {b : Bool} (h : endsP c l = some (b, t)) : t.length < l.length := by
  have h1 := skip_len l
  unfold endsP at h
  split at h
  · rename_i h0
    cases h
    have := hd_drop_lt h0 hc
    rw [List.length_drop]; omega
  · split at h
    · rename_i h0
      cases h
      have := hd_drop_lt h0 (by decide)
      rw [List.length_drop]; omega
    · cases h
theorem elems_tail {g : List UInt8 → Except Int (V × List UInt8)} (hg : ∀ l x, g l = .ok x → Tail x.2 l) : ∀ (m : Nat) (acc : List V) (l : List UInt8) (x : List V × List UInt8), elemsP g m acc l = .ok x → Tail x.2 l
  | 0, _, _, _, h => by cases h
  | m + 1, acc, l, x, h => by
    simp only [elemsP] at h
    split at h
    · cases h
    · rename_i r hr
      split at h
      · cases h
      · rename_i t he
        cases h
        exact (ends_tail he).trans (hg _ _ hr)
      · rename_i t he
        exact (elems_tail hg m _ _ _ h).trans ((ends_tail he).trans (hg _ _ hr))
theorem field_tail {g : List UInt8 → Except Int (V × List UInt8)} (hg : ∀ l x, g l = .ok x → Tail x.2 l) {fs : List (ByteArray × V)} {l : List UInt8} {x : List (ByteArray × V) × List UInt8} (h : fieldP g fs l = .ok x) : Tail x.2 l := by
  unfold fieldP at h
  split at h
  · cases h
  · split at h
    · cases h
    · split at h
      · split at h
        · cases h
        · rename_i hr
          cases h
          exact (hg _ _ hr).trans ((Tail.drop _ _).trans ((Tail.skip _).trans ((Tail.drop _ _).trans (Tail.skip _))))
      · cases h
theorem membs_tail {g : List UInt8 → Except Int (V × List UInt8)} (hg : ∀ l x, g l = .ok x → Tail x.2 l) : ∀ (m : Nat) (acc : List (ByteArray × V)) (l : List UInt8) (x : List (ByteArray × V) × List UInt8), membsP g m acc l = .ok x → Tail x.2 l
  | 0, _, _, _, h => by cases h
  | m + 1, acc, l, x, h => by
    simp only [membsP] at h
    split at h
    · cases h
    · rename_i r hr
      split at h
      · cases h
      · rename_i t he
        cases h
        exact (ends_tail he).trans (field_tail hg hr)
      · rename_i t he
        exact (membs_tail hg m _ _ _ h).trans ((ends_tail he).trans (field_tail hg hr))
theorem list_tail {g : List UInt8 → Except Int (V × List UInt8)} (hg : ∀ l x, g l = .ok x → Tail x.2 l) {l : List UInt8} {x : V × List UInt8} (h : listP g l = .ok x) : Tail x.2 l := by
  unfold listP at h
  split at h
  · cases h; exact (Tail.drop _ _).trans (Tail.skip _)
  · split at h
    · cases h
    · rename_i hr
      cases h
      exact (elems_tail hg _ _ _ _ hr).trans (Tail.skip _)
theorem obj_tail {g : List UInt8 → Except Int (V × List UInt8)} (hg : ∀ l x, g l = .ok x → Tail x.2 l) {l : List UInt8} {x : V × List UInt8} (h : objP g l = .ok x) : Tail x.2 l := by
  unfold objP at h
  split at h
  · cases h; exact (Tail.drop _ _).trans (Tail.skip _)
  · split at h
    · cases h
    · rename_i hr
      cases h
      exact (membs_tail hg _ _ _ _ hr).trans (Tail.skip _)
theorem value_tail : ∀ (n : Nat) (l : List UInt8) (x : V × List UInt8), valueP n l = .ok x → Tail x.2 l
  | 0, _, _, h => by cases h
  | n + 1, l, x, h => by
    simp only [valueP] at h
    split at h
    · exact (num_tail h).trans (Tail.skip _)
    · split at h
      · exact (text_tail h).trans (Tail.skip _)
      · split at h
        · exact ((list_tail (value_tail n) h).trans (Tail.drop _ _)).trans (Tail.skip _)
        · split at h
          · exact ((obj_tail (value_tail n) h).trans (Tail.drop _ _)).trans (Tail.skip _)
          · exact (word_tail h).trans (Tail.skip _)

/-! ### printing -/

def sepBy : List (List UInt8) → List UInt8
  | [] => []
  | [x] => x
  | x :: y :: r => x ++ 44 :: sepBy (y :: r)

def printV : Nat → V → List UInt8
  | 0, _ => []
  | n + 1, v =>
    if v.kind = 0 then wNull
    else if v.kind = 1 then (if v.num = 1 then wTrue else wFalse)
    else if v.kind = 2 then Lib.itoa v.num
    else if v.kind = 3 then quoteL v.text.data.toList
    else if v.kind = 4 then 91 :: (sepBy (v.list.map (printV n)) ++ [93])
    else if v.kind = 5 then 123 :: (sepBy (v.fields.map fun f => quoteL f.1.data.toList ++ 58 :: printV n f.2) ++ [125])
    else []
end Go.Proofs.YtdcaohnaiepllaaGreatDoor
