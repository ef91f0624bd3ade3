/-
  Lists and fields with blanks between their parts are read as without: plain facts. No program here.
-/
import Derived.Test.YtdcaohnaiepllaaGreatDoorJPad
namespace Go.Proofs.YtdcaohnaiepllaaGreatDoor

theorem pad_sep (pd : Nat → List UInt8) (x : List UInt8) (t : List UInt8) (i : Nat) (hx : qAll false x = false) : padL pd i false (x ++ 44 :: t) = padL pd i false x ++ 44 :: (pd (i + x.length) ++ padL pd (i + x.length + 1) false t) := by
  rw [pad_append, hx]; rfl

theorem elems_pad {g : List UInt8 → Except Int (V × List UInt8)} (pd : Nat → List UInt8) (hpd : ∀ i, Bls (pd i)) (hg : ∀ b l, Bls b → g (b ++ l) = g l) {α : Type} (tx : α → List UInt8) (cn : α → V) (R : List UInt8) : ∀ (xs : List α) (m i : Nat) (acc : List V), xs ≠ [] → xs.length ≤ m → (∀ x ∈ xs, qAll false (tx x) = false ∧ ∀ j, Reads g (padL pd j false (tx x)) (cn x)) →
    elemsP g m acc (padL pd i false (sepBy (xs.map tx)) ++ 93 :: R) = .ok (acc ++ xs.map cn, R)
  | [], _, _, _, h, _, _ => absurd rfl h
  | x :: xs, 0, _, _, _, h, _ => by simp at h
  | [x], m + 1, i, acc, _, _, hr => by
    have h1 := (hr x (by simp)).2 i (93 :: R) (stop_sep 93 (by decide) R)
    show elemsP g (m + 1) acc (padL pd i false (tx x) ++ 93 :: R) = _
    simp only [elemsP, h1]
    rw [show endsP 93 (93 :: R) = some (true, R) from ends_true 93 (by decide) R]
    rfl
  | x :: y :: r, m + 1, i, acc, _, hm, hr => by
    obtain ⟨J, hJ⟩ : ∃ J, padL pd (i + (tx x).length + 1) false (sepBy ((y :: r).map tx)) = J := ⟨_, rfl⟩
    have h1 := (hr x (by simp)).2 i (44 :: (pd (i + (tx x).length) ++ (J ++ 93 :: R))) (stop_sep 44 (by decide) _)
    have ih := elems_pad pd hpd hg tx cn R (y :: r) m (i + (tx x).length + 1) (acc ++ [cn x]) (by simp) (by simpa using hm) (fun z hz => hr z (by simp [hz]))
    rw [hJ] at ih
    have e : padL pd i false (sepBy ((x :: y :: r).map tx)) ++ 93 :: R = padL pd i false (tx x) ++ 44 :: (pd (i + (tx x).length) ++ (J ++ 93 :: R)) := by
      show padL pd i false (tx x ++ 44 :: sepBy ((y :: r).map tx)) ++ 93 :: R = _
      rw [pad_sep pd _ _ i (hr x (by simp)).1, hJ]
      simp [List.append_assoc]
    rw [e]
    simp only [elemsP, h1]
    rw [ends_false 93 (by decide)]
    simp only
    have hstep : elemsP g m (acc ++ [cn x]) (pd (i + (tx x).length) ++ (J ++ 93 :: R)) = elemsP g m (acc ++ [cn x]) (J ++ 93 :: R) := by
      cases m with
      | zero => rfl
      | succ m => simp only [elemsP, hg _ _ (hpd _)]
    rw [hstep, ih]
    simp

/-- a field with blanks. -/
theorem pad_field (pd : Nat → List UInt8) (name : ByteArray) (t : List UInt8) (i : Nat) (hn : ∀ c ∈ quo name.data.toList, c ≠ 34) :
    padL pd i false (quoteL name.data.toList ++ 58 :: t) = fieldB [] (pd (i + (quoteL name.data.toList).length)) name (padL pd (i + (quoteL name.data.toList).length + 1) false t) := by
  obtain ⟨e1, e2⟩ := pad_quote pd name.data.toList i hn
  rw [pad_append, e1, e2]
  rfl

theorem membs_pad {g : List UInt8 → Except Int (V × List UInt8)} (pd : Nat → List UInt8) (hpd : ∀ i, Bls (pd i)) (hg : ∀ b l, Bls b → g (b ++ l) = g l) {α : Type} (nm : α → ByteArray) (tx : α → List UInt8) (cn : α → V) (R : List UInt8) :
    ∀ (xs : List α) (m i : Nat) (acc : List (ByteArray × V)) (b : List UInt8), Bls b → xs ≠ [] → xs.length ≤ m → (∀ x ∈ xs, (qAll false (tx x) = false ∧ ∀ j, Reads g (padL pd j false (tx x)) (cn x)) ∧ mend (nm x).data.toList = (nm x).data.toList ∧ ∀ c ∈ quo (nm x).data.toList, c ≠ 34) → (∀ x ∈ xs, getF (nm x) acc = none) → xs.Pairwise (fun x y => ¬ cmpT (nm y) (nm x) = 0) →
    membsP g m acc (b ++ (padL pd i false (sepBy (xs.map fun x => quoteL (nm x).data.toList ++ 58 :: tx x)) ++ 125 :: R)) = .ok (insAll nm cn acc xs, R)
  | [], _, _, _, _, _, h, _, _, _, _ => absurd rfl h
  | x :: xs, 0, _, _, _, _, _, h, _, _, _ => by simp at h
  | [x], m + 1, i, acc, b, hb, _, _, hr, hget, _ => by
    obtain ⟨⟨_, hx1⟩, hx2, hx3⟩ := hr x (by simp)
    have hx := field_read [] (pd (i + (quoteL (nm x).data.toList).length)) b (fun _ h => by cases h) hb (fun l => hg _ l (hpd _)) (nm x) hx2 (padL pd (i + (quoteL (nm x).data.toList).length + 1) false (tx x)) (cn x) (hx1 _) acc (hget x (by simp)) (125 :: R) (stop_sep 125 (by decide) R)
    show membsP g (m + 1) acc (b ++ (padL pd i false (quoteL (nm x).data.toList ++ 58 :: tx x) ++ 125 :: R)) = _
    rw [pad_field pd _ _ i hx3]
    simp only [membsP, hx]
    rw [show endsP 125 (125 :: R) = some (true, R) from ends_true 125 (by decide) R]
    rfl
  | x :: y :: r, m + 1, i, acc, b, hb, _, hm, hr, hget, hd => by
    obtain ⟨⟨hx0, hx1⟩, hx2, hx3⟩ := hr x (by simp)
    obtain ⟨k, hk⟩ : ∃ k, i + (quoteL (nm x).data.toList ++ 58 :: tx x).length = k := ⟨_, rfl⟩
    obtain ⟨J, hJ⟩ : ∃ J, padL pd (k + 1) false (sepBy ((y :: r).map fun x => quoteL (nm x).data.toList ++ 58 :: tx x)) = J := ⟨_, rfl⟩
    have hx := field_read [] (pd (i + (quoteL (nm x).data.toList).length)) b (fun _ h => by cases h) hb (fun l => hg _ l (hpd _)) (nm x) hx2 (padL pd (i + (quoteL (nm x).data.toList).length + 1) false (tx x)) (cn x) (hx1 _) acc (hget x (by simp)) (44 :: (pd k ++ (J ++ 125 :: R))) (stop_sep 44 (by decide) _)
    have hd' := List.pairwise_cons.1 hd
    have ih := membs_pad pd hpd hg nm tx cn R (y :: r) m (k + 1) (setF (nm x) (cn x) acc) (pd k) (hpd k) (by simp) (by simpa using hm) (fun z hz => hr z (by simp [hz]))
      (fun z hz => by rw [get_set_other _ _ _ (hd'.1 z hz)]; exact hget z (by simp [hz])) hd'.2
    rw [hJ] at ih
    have hq : qAll false (quoteL (nm x).data.toList ++ 58 :: tx x) = false := by
      rw [qAll_append, (pad_quote pd _ i hx3).2]
      exact hx0
    have e : padL pd i false (sepBy ((x :: y :: r).map fun x => quoteL (nm x).data.toList ++ 58 :: tx x)) ++ 125 :: R = fieldB [] (pd (i + (quoteL (nm x).data.toList).length)) (nm x) (padL pd (i + (quoteL (nm x).data.toList).length + 1) false (tx x)) ++ 44 :: (pd k ++ (J ++ 125 :: R)) := by
      show padL pd i false ((quoteL (nm x).data.toList ++ 58 :: tx x) ++ 44 :: sepBy ((y :: r).map fun x => quoteL (nm x).data.toList ++ 58 :: tx x)) ++ 125 :: R = _
      rw [pad_sep pd _ _ i hq, pad_field pd _ _ i hx3, hk, hJ]
      simp [List.append_assoc]
    rw [e]
    simp only [membsP, hx]
    rw [ends_false 125 (by decide)]
    simp only
    rw [ih]
    rfl
end Go.Proofs.YtdcaohnaiepllaaGreatDoor
