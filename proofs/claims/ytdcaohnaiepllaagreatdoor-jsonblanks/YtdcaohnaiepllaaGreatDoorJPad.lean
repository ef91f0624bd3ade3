/-
  Blanks between the parts of a text: plain facts. No program here.
-/
import Derived.Test.YtdcaohnaiepllaaGreatDoorU15
namespace Go.Proofs.YtdcaohnaiepllaaGreatDoor

/-- is a blank put behind it? -/
def opens (c : UInt8) : Bool := c = 44 || c = 58 || c = 91 || c = 123
/-- quotes turn it. -/
def qNext (q : Bool) (c : UInt8) : Bool := if c = 34 then !q else q
def qAll (q : Bool) (l : List UInt8) : Bool := l.foldl qNext q
def padL (pd : Nat → List UInt8) : Nat → Bool → List UInt8 → List UInt8
  | _, _, [] => []
  | i, q, c :: t => c :: ((if !qNext q c && opens c then pd i else []) ++ padL pd (i + 1) (qNext q c) t)

theorem qAll_append (q : Bool) (a b : List UInt8) : qAll q (a ++ b) = qAll (qAll q a) b := by
  unfold qAll; rw [List.foldl_append]
theorem pad_append (pd : Nat → List UInt8) : ∀ (a b : List UInt8) (i : Nat) (q : Bool), padL pd i q (a ++ b) = padL pd i q a ++ padL pd (i + a.length) (qAll q a) b
  | [], b, i, q => rfl
  | c :: t, b, i, q => by
    show c :: (_ ++ padL pd (i + 1) (qNext q c) (t ++ b)) = c :: (_ ++ padL pd (i + 1) (qNext q c) t) ++ padL pd (i + (t.length + 1)) (qAll (qNext q c) t) b
    rw [pad_append pd t b (i + 1) (qNext q c), show i + 1 + t.length = i + (t.length + 1) by omega]
    simp only [List.cons_append, List.append_assoc]
/-- one more byte, at the end. -/
theorem pad_snoc (pd : Nat → List UInt8) (a : List UInt8) (c : UInt8) (q : Bool) : padL pd 0 q (a ++ [c]) = padL pd 0 q a ++ c :: (if !qNext (qAll q a) c && opens c then pd a.length else []) := by
  rw [pad_append, Nat.zero_add]
  show _ ++ c :: (_ ++ []) = _
  rw [List.append_nil]

/-- nothing of it turns or opens. -/
def Still (l : List UInt8) : Prop := ∀ c ∈ l, c ≠ 34 ∧ opens c = false
theorem pad_still (pd : Nat → List UInt8) : ∀ (l : List UInt8) (i : Nat) (q : Bool), Still l → padL pd i q l = l ∧ qAll q l = q
  | [], _, _, _ => ⟨rfl, rfl⟩
  | c :: t, i, q, h => by
    obtain ⟨h1, h2⟩ := h c (by simp)
    obtain ⟨e1, e2⟩ := pad_still pd t (i + 1) q (fun x hx => h x (by simp [hx]))
    have hq : qNext q c = q := by unfold qNext; rw [if_neg h1]
    constructor
    · show c :: (_ ++ padL pd (i + 1) (qNext q c) t) = _
      rw [hq, e1, h2, Bool.and_false]; rfl
    · show qAll (qNext q c) t = q
      rw [hq, e2]
/-- within quotes nothing opens. -/
theorem pad_in (pd : Nat → List UInt8) : ∀ (l : List UInt8) (i : Nat), (∀ c ∈ l, c ≠ 34) → padL pd i true l = l ∧ qAll true l = true
  | [], _, _ => ⟨rfl, rfl⟩
  | c :: t, i, h => by
    have h1 := h c (by simp)
    obtain ⟨e1, e2⟩ := pad_in pd t (i + 1) (fun x hx => h x (by simp [hx]))
    have hq : qNext true c = true := by unfold qNext; rw [if_neg h1]
    constructor
    · show c :: (_ ++ padL pd (i + 1) (qNext true c) t) = _
      rw [hq, e1]; rfl
    · show qAll (qNext true c) t = true
      rw [hq, e2]
theorem pad_quote (pd : Nat → List UInt8) (l : List UInt8) (i : Nat) (h : ∀ c ∈ quo l, c ≠ 34) : padL pd i false (quoteL l) = quoteL l ∧ qAll false (quoteL l) = false := by
  obtain ⟨e1, e2⟩ := pad_in pd (quo l) (i + 1) h
  have e : quoteL l = [34] ++ (quo l ++ [34]) := by simp [quoteL]
  rw [e]
  constructor
  · rw [pad_append, pad_append]
    show [34] ++ (padL pd (i + 1) true (quo l) ++ padL pd (i + 1 + (quo l).length) (qAll true (quo l)) [34]) = _
    rw [e1, e2]; rfl
  · rw [qAll_append, qAll_append]
    show qAll (qAll true (quo l)) [34] = false
    rw [e2]; rfl

/-- every backslash has a u behind it. -/
def Esc : List UInt8 → Bool
  | [] => true
  | [c] => c != 92
  | c :: d :: t => (c != 92 || d == 117) && Esc (d :: t)
theorem esc_append : ∀ (a b : List UInt8), Esc a = true → Esc b = true → Esc (a ++ b) = true
  | [], _, _, h => h
  | [c], [], h, _ => h
  | [c], d :: t, h, hb => by
    have : (c != 92) = true := h
    show ((c != 92 || d == 117) && Esc (d :: t)) = true
    rw [this, hb]; rfl
  | c :: d :: t, b, h, hb => by
    have h' : ((c != 92 || d == 117) && Esc (d :: t)) = true := h
    rw [Bool.and_eq_true] at h'
    show ((c != 92 || d == 117) && Esc ((d :: t) ++ b)) = true
    rw [h'.1, esc_append (d :: t) b h'.2 hb]; rfl
end Go.Proofs.YtdcaohnaiepllaaGreatDoor
