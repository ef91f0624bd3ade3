/-
  What is printed is read as it was: values as plain data. No conditions beyond those stated.
-/
import Derived.Test.YtdcaohnaiepllaaGreatDoorJNum
import Derived.Test.YtdcaohnaiepllaaGreatDoorVMade1
import Derived.Test.YtdcaohnaiepllaaGreatDoorJW1
namespace Go.Proofs.YtdcaohnaiepllaaGreatDoor

/-- behind a number. -/
def Stop (R : List UInt8) : Prop := ¬ (48 ≤ hd R ∧ hd R ≤ 57) ∧ ¬ (hd R = 46 ∨ hd R = 101 ∨ hd R = 69)
def Bls (b : List UInt8) : Prop := ∀ x ∈ b, isBl x
theorem skip_bls : ∀ (b l : List UInt8), Bls b → skip (b ++ l) = skip l
  | [], _, _ => rfl
  | x :: t, l, h => by
    have hx := h x (by simp)
    show skip (x :: (t ++ l)) = _
    simp only [skip, if_pos hx]
    exact skip_bls t l fun y hy => h y (by simp [hy])
theorem value_bls (m : Nat) (b l : List UInt8) (h : Bls b) : valueP m (b ++ l) = valueP m l := by
  cases m with
  | zero => rfl
  | succ m => simp only [valueP, skip_bls b l h]

/-- what g reads of a text. -/
def Reads (g : List UInt8 → Except Int (V × List UInt8)) (t : List UInt8) (x : V) : Prop := ∀ R, Stop R → g (t ++ R) = .ok (x, R)

theorem stop_sep (c : UInt8) (hc : c.toNat = 44 ∨ c.toNat = 93 ∨ c.toNat = 125 ∨ c.toNat = 32) (R : List UInt8) : Stop (c :: R) := by
  show ¬ (48 ≤ c.toNat ∧ c.toNat ≤ 57) ∧ ¬ (c.toNat = 46 ∨ c.toNat = 101 ∨ c.toNat = 69)
  omega

def joinB (b : List UInt8) : List (List UInt8) → List UInt8
  | [] => []
  | [x] => x
  | x :: y :: r => x ++ 44 :: (b ++ joinB b (y :: r))
theorem join_sep : ∀ xs, joinB [] xs = sepBy xs
  | [] => rfl
  | [x] => rfl
  | x :: y :: r => by
    show x ++ 44 :: ([] ++ joinB [] (y :: r)) = x ++ 44 :: sepBy (y :: r)
    rw [join_sep (y :: r)]; rfl
theorem join_len (b : List UInt8) : ∀ xs : List (List UInt8), xs.length ≤ (joinB b xs).length + 1
  | [] => by simp
  | [x] => by simp
  | x :: y :: r => by
    have := join_len b (y :: r)
    show _ ≤ (x ++ 44 :: (b ++ joinB b (y :: r))).length + 1
    simp only [List.length_append, List.length_cons] at this ⊢
    omega

theorem ends_true (c : UInt8) (h : c.toNat = 93 ∨ c.toNat = 125) (R : List UInt8) : endsP c.toNat (c :: R) = some (true, R) := by
  have hs : skip (c :: R) = c :: R := skip_hd (show c.toNat ≠ 9 ∧ c.toNat ≠ 10 ∧ c.toNat ≠ 13 ∧ c.toNat ≠ 32 by omega)
  unfold endsP
  rw [hs, if_pos (show hd (c :: R) = c.toNat from rfl)]
  rfl
theorem ends_false (c : Nat) (h : c ≠ 44) (R : List UInt8) : endsP c (44 :: R) = some (false, R) := by
  have hs : skip (44 :: R) = 44 :: R := skip_hd (show (44 : Nat) ≠ 9 ∧ (44 : Nat) ≠ 10 ∧ (44 : Nat) ≠ 13 ∧ (44 : Nat) ≠ 32 by decide)
  unfold endsP
  rw [hs, if_neg (show ¬ hd (44 :: R) = c from fun e => h (by rw [← e]; rfl)), if_pos (show hd (44 :: R) = 44 from rfl)]
  rfl

theorem elems_join {g : List UInt8 → Except Int (V × List UInt8)} (b : List UInt8) (hg : ∀ l, g (b ++ l) = g l) {α : Type} (tx : α → List UInt8) (cn : α → V) (R : List UInt8) : ∀ (xs : List α) (m : Nat) (acc : List V), xs ≠ [] → xs.length ≤ m → (∀ x ∈ xs, Reads g (tx x) (cn x)) →
    elemsP g m acc (joinB b (xs.map tx) ++ 93 :: R) = .ok (acc ++ xs.map cn, R)
  | [], _, _, h, _, _ => absurd rfl h
  | x :: xs, 0, _, _, h, _ => by simp at h
  | [x], m + 1, acc, _, _, hr => by
    have h1 := hr x (by simp) (93 :: R) (stop_sep 93 (by decide) R)
    show elemsP g (m + 1) acc (tx x ++ 93 :: R) = _
    simp only [elemsP, h1]
    rw [show endsP 93 (93 :: R) = some (true, R) from ends_true 93 (by decide) R]
    rfl
  | x :: y :: r, m + 1, acc, _, hm, hr => by
    have h1 := hr x (by simp) (44 :: (b ++ (joinB b ((y :: r).map tx) ++ 93 :: R))) (stop_sep 44 (by decide) _)
    have ih := elems_join b hg tx cn R (y :: r) m (acc ++ [cn x]) (by simp) (by simpa using hm) (fun z hz => hr z (by simp [hz]))
    have e : joinB b ((x :: y :: r).map tx) ++ 93 :: R = tx x ++ 44 :: (b ++ (joinB b ((y :: r).map tx) ++ 93 :: R)) := by
      show (tx x ++ 44 :: (b ++ joinB b ((y :: r).map tx))) ++ 93 :: R = _
      simp [List.append_assoc]
    rw [e]
    simp only [elemsP, h1]
    rw [ends_false 93 (by decide)]
    simp only
    have hstep : elemsP g m (acc ++ [cn x]) (b ++ (joinB b ((y :: r).map tx) ++ 93 :: R)) = elemsP g m (acc ++ [cn x]) (joinB b ((y :: r).map tx) ++ 93 :: R) := by
      cases m with
      | zero => rfl
      | succ m => simp only [elemsP, hg]
    rw [hstep, ih]
    simp

/-- a field as a text. -/
def fieldB (b1 b2 : List UInt8) (name : ByteArray) (t : List UInt8) : List UInt8 := quoteL name.data.toList ++ (b1 ++ 58 :: (b2 ++ t))
def insAll {α : Type} (nm : α → ByteArray) (cn : α → V) (acc : List (ByteArray × V)) (xs : List α) : List (ByteArray × V) := xs.foldl (fun a x => setF (nm x) (cn x) a) acc

theorem quote_hd (l : List UInt8) : hd (quoteL l) = 34 := rfl
theorem quote_ne (l : List UInt8) : quoteL l ≠ [] := by simp [quoteL]
theorem field_read {g : List UInt8 → Except Int (V × List UInt8)} (b1 b2 b3 : List UInt8) (h1 : Bls b1) (h3 : Bls b3) (hg : ∀ l, g (b2 ++ l) = g l) (name : ByteArray) (hname : mend name.data.toList = name.data.toList) (t : List UInt8) (x : V) (hr : Reads g t x) (fs : List (ByteArray × V)) (hget : getF name fs = none) (R : List UInt8) (hR : Stop R) :
    fieldP g fs (b3 ++ (fieldB b1 b2 name t ++ R)) = .ok (setF name x fs, R) := by
  have e : fieldB b1 b2 name t ++ R = quoteL name.data.toList ++ (b1 ++ 58 :: (b2 ++ (t ++ R))) := by
    unfold fieldB
    simp [List.append_assoc]
  have hs : skip (b3 ++ (fieldB b1 b2 name t ++ R)) = quoteL name.data.toList ++ (b1 ++ 58 :: (b2 ++ (t ++ R))) := by
    rw [skip_bls b3 _ h3, e, skip_hd (by rw [hd_append (quote_ne _), quote_hd]; decide)]
  have hnm : (⟨(name.data.toList).toArray⟩ : ByteArray) = name := by cases name; rfl
  unfold fieldP
  rw [hs, readL_quote, hname]
  simp only [hnm, hget, Option.isSome_none, Bool.false_eq_true, if_false, drop_app]
  have h58 : skip (b1 ++ 58 :: (b2 ++ (t ++ R))) = 58 :: (b2 ++ (t ++ R)) := by
    rw [skip_bls b1 _ h1]
    exact skip_hd (show (58 : Nat) ≠ 9 ∧ (58 : Nat) ≠ 10 ∧ (58 : Nat) ≠ 13 ∧ (58 : Nat) ≠ 32 by decide)
  rw [h58, if_pos (show hd (58 :: (b2 ++ (t ++ R))) = 58 from rfl), List.drop_succ_cons, List.drop_zero, hg, hr R hR]

theorem membs_join {g : List UInt8 → Except Int (V × List UInt8)} (b1 b2 b3 : List UInt8) (h1 : Bls b1) (h3 : Bls b3) (hg : ∀ l, g (b2 ++ l) = g l) {α : Type} (nm : α → ByteArray) (tx : α → List UInt8) (cn : α → V) (R : List UInt8) :
    ∀ (xs : List α) (m : Nat) (acc : List (ByteArray × V)) (b : List UInt8), Bls b → xs ≠ [] → xs.length ≤ m → (∀ x ∈ xs, Reads g (tx x) (cn x) ∧ mend (nm x).data.toList = (nm x).data.toList) → (∀ x ∈ xs, getF (nm x) acc = none) → xs.Pairwise (fun x y => ¬ cmpT (nm y) (nm x) = 0) →
    membsP g m acc (b ++ (joinB b3 (xs.map fun x => fieldB b1 b2 (nm x) (tx x)) ++ 125 :: R)) = .ok (insAll nm cn acc xs, R)
  | [], _, _, _, _, h, _, _, _, _ => absurd rfl h
  | x :: xs, 0, _, _, _, _, h, _, _, _ => by simp at h
  | [x], m + 1, acc, b, hb, _, _, hr, hget, _ => by
    have hx := field_read b1 b2 b h1 hb hg (nm x) (hr x (by simp)).2 (tx x) (cn x) (hr x (by simp)).1 acc (hget x (by simp)) (125 :: R) (stop_sep 125 (by decide) R)
    show membsP g (m + 1) acc (b ++ (fieldB b1 b2 (nm x) (tx x) ++ 125 :: R)) = _
    simp only [membsP, hx]
    rw [show endsP 125 (125 :: R) = some (true, R) from ends_true 125 (by decide) R]
    rfl
  | x :: y :: r, m + 1, acc, b, hb, _, hm, hr, hget, hd => by
    have hx := field_read b1 b2 b h1 hb hg (nm x) (hr x (by simp)).2 (tx x) (cn x) (hr x (by simp)).1 acc (hget x (by simp)) (44 :: (b3 ++ (joinB b3 ((y :: r).map fun x => fieldB b1 b2 (nm x) (tx x)) ++ 125 :: R))) (stop_sep 44 (by decide) _)
    have hd' := List.pairwise_cons.1 hd
    have ih := membs_join b1 b2 b3 h1 h3 hg nm tx cn R (y :: r) m (setF (nm x) (cn x) acc) b3 h3 (by simp) (by simpa using hm) (fun z hz => hr z (by simp [hz]))
      (fun z hz => by rw [get_set_other _ _ _ (hd'.1 z hz)]; exact hget z (by simp [hz])) hd'.2
    have e : b ++ (joinB b3 ((x :: y :: r).map fun x => fieldB b1 b2 (nm x) (tx x)) ++ 125 :: R) = b ++ (fieldB b1 b2 (nm x) (tx x) ++ 44 :: (b3 ++ (joinB b3 ((y :: r).map fun x => fieldB b1 b2 (nm x) (tx x)) ++ 125 :: R))) := by
      show b ++ ((fieldB b1 b2 (nm x) (tx x) ++ 44 :: (b3 ++ joinB b3 ((y :: r).map fun x => fieldB b1 b2 (nm x) (tx x)))) ++ 125 :: R) = _
      simp [List.append_assoc]
    rw [e]
    simp only [membsP, hx]
    rw [ends_false 125 (by decide)]
    simp only
    rw [ih]
    rfl
end Go.Proofs.YtdcaohnaiepllaaGreatDoor
