/-
  Values of documents as plain data: their order, their fields. No conditions beyond those stated.
  Texts in quotes, as plain functions of bytes: what is written of a text, what is read of one, and how they go together. No conditions beyond those stated.
-/
import Derived.Lib.SlicesS
import Derived.Lib.ValidLaws
import Derived.Lib.MapLaws
namespace Go.Proofs.YtnkoblhdbccbeaaGreatDoor

/-- a value: its kind, its number, its text, its list, its fields. -/
structure V where
  kind : Int
  num : Int
  text : ByteArray
  list : List V
  fields : List (ByteArray × V)

def cmpI (a b : Int) : Int := if a < b then -1 else if b < a then 1 else 0
def cmpB : List UInt8 → List UInt8 → Int
  | [], [] => 0
  | [], _ :: _ => -1
  | _ :: _, [] => 1
  | x :: xs, y :: ys => if x.toNat < y.toNat then -1 else if y.toNat < x.toNat then 1 else cmpB xs ys
def cmpT (a b : ByteArray) : Int := cmpB a.toList b.toList
def cmpL {α : Type} (f : α → α → Int) : List α → List α → Int
  | [], [] => 0
  | [], _ :: _ => -1
  | _ :: _, [] => 1
  | x :: xs, y :: ys => if f x y = 0 then cmpL f xs ys else f x y
def cmpF (g : V → V → Int) (p q : ByteArray × V) : Int := if cmpT p.1 q.1 = 0 then g p.2 q.2 else cmpT p.1 q.1
/-- how two values stand to one another, so deep. -/
def cmpV : Nat → V → V → Int
  | 0, _, _ => 0
  | n + 1, a, b =>
    if a.kind = b.kind then
      (if a.kind = 1 ∨ a.kind = 2 then cmpI a.num b.num
       else if a.kind = 3 then cmpT a.text b.text
       else if a.kind = 4 then cmpL (cmpV n) a.list b.list
       else if a.kind = 5 then cmpL (cmpF (cmpV n)) a.fields b.fields
       else 0)
    else cmpI a.kind b.kind

/-- an order: it holds both ways round, and from the first to the last of three. -/
structure Good {α : Type} (f : α → α → Int) : Prop where
  anti : ∀ a b, f a b = - f b a
  trans : ∀ a b c, f a b ≤ 0 → f b c ≤ 0 → f a c ≤ 0
section
variable {α : Type} {f : α → α → Int}
theorem Good.refl (h : Good f) (a : α) : f a a = 0 := by have := h.anti a a; omega
theorem Good.lt_left (h : Good f) {a b c : α} (h1 : f a b < 0) (h2 : f b c ≤ 0) : f a c < 0 := by
  have h3 := h.trans a b c (by omega) h2
  rcases Int.lt_or_eq_of_le h3 with h4 | h4
  · exact h4
  · have h5 := h.anti a c
    have h6 := h.trans b c a h2 (by omega)
    have h7 := h.anti a b
    omega
theorem Good.lt_right (h : Good f) {a b c : α} (h1 : f a b ≤ 0) (h2 : f b c < 0) : f a c < 0 := by
  have h3 := h.trans a b c h1 (by omega)
  rcases Int.lt_or_eq_of_le h3 with h4 | h4
  · exact h4
  · have h5 := h.anti a c
    have h6 := h.trans c a b (by omega) h1
    have h7 := h.anti b c
    omega
theorem Good.eq_left (h : Good f) {a b c : α} (h1 : f a b = 0) : f a c = f b c ∨ ((f a c < 0 ∧ f b c < 0) ∨ (0 < f a c ∧ 0 < f b c)) := by
  have a1 := h.anti a b
  have a2 := h.anti a c
  have a3 := h.anti b c
  rcases Int.lt_trichotomy (f b c) 0 with h2 | h2 | h2
  · exact .inr (.inl ⟨h.lt_right (by omega) h2, h2⟩)
  · left
    have h3 := h.trans a b c (by omega) (by omega)
    have h4 := h.trans c b a (by omega) (by omega)
    omega
  · refine .inr (.inr ⟨?_, h2⟩)
    have h3 := h.lt_left (a := c) (b := b) (c := a) (by omega) (by omega)
    omega
end

theorem good_cmpI : Good cmpI where
  anti a b := by unfold cmpI; repeat' split <;> try omega
  trans a b c := by unfold cmpI; repeat' split <;> try omega

theorem cmpB_anti : ∀ a b, cmpB a b = - cmpB b a
  | [], [] => rfl
  | [], _ :: _ => rfl
  | _ :: _, [] => rfl
  | x :: xs, y :: ys => by
    have := cmpB_anti xs ys
    simp only [cmpB]
    repeat' split
    all_goals omega
theorem cmpB_trans : ∀ a b c, cmpB a b ≤ 0 → cmpB b c ≤ 0 → cmpB a c ≤ 0
  | [], _, [], _, _ => by simp [cmpB]
  | [], _, _ :: _, _, _ => by simp [cmpB]
  | _ :: _, [], _, h, _ => by simp [cmpB] at h
  | _ :: _, _ :: _, [], _, h => by simp [cmpB] at h
  | x :: xs, y :: ys, z :: zs, h1, h2 => by
    have ih := cmpB_trans xs ys zs
    simp only [cmpB] at h1 h2 ⊢
    repeat' split at h1
    all_goals repeat' split at h2
    all_goals repeat' split
    all_goals first | omega | exact ih (by assumption) (by assumption)
theorem good_cmpT : Good cmpT := ⟨fun _ _ => cmpB_anti _ _, fun _ _ _ => cmpB_trans _ _ _⟩

theorem cmpL_anti {α : Type} {f : α → α → Int} (h : Good f) : ∀ a b, cmpL f a b = - cmpL f b a
  | [], [] => rfl
  | [], _ :: _ => rfl
  | _ :: _, [] => rfl
  | x :: xs, y :: ys => by
    have ih := cmpL_anti h xs ys
    have := h.anti x y
    simp only [cmpL]
    repeat' split
    all_goals omega
theorem cmpL_trans {α : Type} {f : α → α → Int} (h : Good f) : ∀ a b c, cmpL f a b ≤ 0 → cmpL f b c ≤ 0 → cmpL f a c ≤ 0
  | [], _, [], _, _ => by simp [cmpL]
  | [], _, _ :: _, _, _ => by simp [cmpL]
  | _ :: _, [], _, h, _ => by simp [cmpL] at h
  | _ :: _, _ :: _, [], _, h => by simp [cmpL] at h
  | x :: xs, y :: ys, z :: zs, h1, h2 => by
    have ih := cmpL_trans h xs ys zs
    simp only [cmpL] at h1 h2 ⊢
    by_cases e1 : f x y = 0
    · rw [if_pos e1] at h1
      by_cases e2 : f y z = 0
      · rw [if_pos e2] at h2
        have e3 : f x z = 0 := by rcases h.eq_left (c := z) e1 with h' | h' | h' <;> omega
        rw [if_pos e3]
        exact ih h1 h2
      · rw [if_neg e2] at h2
        have := h.lt_right (a := x) (b := y) (c := z) (by omega) (by omega)
        rw [if_neg (by omega)]
        omega
    · rw [if_neg e1] at h1
      have h3 : f y z ≤ 0 := by
        split at h2
        · omega
        · exact h2
      have := h.lt_left (a := x) (b := y) (c := z) (by omega) h3
      rw [if_neg (by omega)]
      omega
theorem good_cmpL {α : Type} {f : α → α → Int} (h : Good f) : Good (cmpL f) := ⟨cmpL_anti h, cmpL_trans h⟩

theorem good_cmpF {g : V → V → Int} (h : Good g) : Good (cmpF g) where
  anti p q := by
    have a1 := good_cmpT.anti p.1 q.1
    have a2 := h.anti p.2 q.2
    unfold cmpF
    repeat' split
    all_goals omega
  trans p q r h1 h2 := by
    unfold cmpF at h1 h2 ⊢
    by_cases e1 : cmpT p.1 q.1 = 0
    · rw [if_pos e1] at h1
      by_cases e2 : cmpT q.1 r.1 = 0
      · rw [if_pos e2] at h2
        have e3 : cmpT p.1 r.1 = 0 := by rcases good_cmpT.eq_left (c := r.1) e1 with h' | h' | h' <;> omega
        rw [if_pos e3]
        exact h.trans _ _ _ h1 h2
      · rw [if_neg e2] at h2
        have := good_cmpT.lt_right (a := p.1) (b := q.1) (c := r.1) (by omega) (by omega)
        rw [if_neg (by omega)]
        omega
    · rw [if_neg e1] at h1
      have h3 : cmpT q.1 r.1 ≤ 0 := by
        split at h2
        · omega
        · exact h2
      have := good_cmpT.lt_left (a := p.1) (b := q.1) (c := r.1) (by omega) h3
      rw [if_neg (by omega)]
      omega

/-- by kind first, then by what the kind has. -/
theorem good_kind {α : Type} (k : α → Int) (g : Int → α → α → Int) (hg : ∀ i, Good (g i)) : Good (fun a b => if k a = k b then g (k a) a b else cmpI (k a) (k b)) where
  anti a b := by
    have a1 := good_cmpI.anti (k a) (k b)
    have a2 := (hg (k a)).anti a b
    by_cases h : k a = k b
    · simp only [h, if_true] at a2 ⊢
      exact a2
    · simp only [h, if_false, Ne.symm h]
      exact a1
  trans a b c h1 h2 := by
    by_cases e1 : k a = k b
    · by_cases e2 : k b = k c
      · simp only [e1, e2, if_true] at h1 h2 ⊢
        exact (hg (k c)).trans a b c h1 h2
      · have e3 : ¬ k a = k c := fun h => e2 (e1.symm.trans h)
        simp only [e2, if_false] at h2
        simp only [e3, if_false]
        rw [e1]
        exact h2
    · simp only [e1, if_false] at h1
      by_cases e2 : k b = k c
      · have e3 : ¬ k a = k c := fun h => e1 (h.trans e2.symm)
        simp only [e3, if_false]
        rw [← e2]
        exact h1
      · simp only [e2, if_false] at h2
        have h3 := good_cmpI.trans _ _ _ h1 h2
        by_cases e3 : k a = k c
        · exfalso
          rw [e3] at h1
          have := good_cmpI.anti (k b) (k c)
          unfold cmpI at h1 h2
          repeat' split at h1
          all_goals repeat' split at h2
          all_goals omega
        · simp only [e3, if_false]
          exact h3

theorem good_zero {α : Type} : Good (fun _ _ : α => (0 : Int)) := ⟨fun _ _ => rfl, fun _ _ _ h _ => h⟩
theorem good_on {α β : Type} (p : α → β) {f : β → β → Int} (h : Good f) : Good (fun a b => f (p a) (p b)) := ⟨fun _ _ => h.anti _ _, fun _ _ _ => h.trans _ _ _⟩

theorem good_cmpV : ∀ n, Good (cmpV n)
  | 0 => good_zero
  | n + 1 => by
    have ih := good_cmpV n
    refine good_kind V.kind (fun i a b => if i = 1 ∨ i = 2 then cmpI a.num b.num else if i = 3 then cmpT a.text b.text else if i = 4 then cmpL (cmpV n) a.list b.list else if i = 5 then cmpL (cmpF (cmpV n)) a.fields b.fields else 0) (fun i => ?_)
    by_cases h1 : i = 1 ∨ i = 2
    · simp only [h1, if_true]; exact good_on V.num good_cmpI
    · by_cases h3 : i = 3
      · simp only [h3, if_true]; exact good_on V.text good_cmpT
      · by_cases h4 : i = 4
        · simp only [h4, if_true]; exact good_on V.list (good_cmpL ih)
        · by_cases h5 : i = 5
          · simp only [h5, if_true]; exact good_on V.fields (good_cmpL (good_cmpF ih))
          · simp only [h1, h3, h4, h5, if_false]; exact good_zero

/-! the fields of an object -/
def getF (name : ByteArray) : List (ByteArray × V) → Option V
  | [] => none
  | f :: fs => if cmpT f.1 name = 0 then some f.2 else getF name fs
def setF (name : ByteArray) (x : V) : List (ByteArray × V) → List (ByteArray × V)
  | [] => [(name, x)]
  | f :: fs => if cmpT f.1 name = 0 then (f.1, x) :: fs else if 0 < cmpT f.1 name then (name, x) :: f :: fs else f :: setF name x fs
def delF (name : ByteArray) : List (ByteArray × V) → List (ByteArray × V)
  | [] => []
  | f :: fs => if cmpT f.1 name = 0 then fs else f :: delF name fs
/-- names rise. -/
def Rises : List (ByteArray × V) → Prop
  | [] => True
  | [_] => True
  | f :: g :: fs => cmpT f.1 g.1 < 0 ∧ Rises (g :: fs)

theorem cmpB_range : ∀ a b, cmpB a b = -1 ∨ cmpB a b = 0 ∨ cmpB a b = 1
  | [], [] => .inr (.inl rfl)
  | [], _ :: _ => .inl rfl
  | _ :: _, [] => .inr (.inr rfl)
  | x :: xs, y :: ys => by
    have := cmpB_range xs ys
    simp only [cmpB]
    repeat' split
    all_goals omega
theorem cmpB_eq : ∀ {a b}, cmpB a b = 0 → a = b
  | [], [], _ => rfl
  | [], _ :: _, h => by simp [cmpB] at h
  | _ :: _, [], h => by simp [cmpB] at h
  | x :: xs, y :: ys, h => by
    simp only [cmpB] at h
    split at h
    · omega
    · split at h
      · omega
      · have e : x = y := UInt8.toNat_inj.1 (by omega)
        rw [e, cmpB_eq h]
theorem cmpT_eq {a b : ByteArray} (h : cmpT a b = 0) : a = b := by
  have e := cmpB_eq h
  exact (Lib.bytes_beq_iff a b).1 (by rw [e]; simp)
theorem bytesLess_eq : ∀ a b, Op.bytesLess a b = decide (cmpB a b < 0)
  | [], [] => rfl
  | [], _ :: _ => rfl
  | _ :: _, [] => rfl
  | x :: xs, y :: ys => by
    have ih := bytesLess_eq xs ys
    simp only [Op.bytesLess, cmpB, ih]
    by_cases h1 : x.toNat < y.toNat
    · have : x < y := UInt8.lt_iff_toNat_lt.2 h1
      simp [h1, this]
    · have n1 : ¬ x < y := fun h => h1 (UInt8.lt_iff_toNat_lt.1 h)
      by_cases h2 : y.toNat < x.toNat
      · have ne : x ≠ y := fun h => by subst h; omega
        simp [h1, h2, n1, ne]
      · have e : x = y := UInt8.toNat_inj.1 (by omega)
        subst e
        simp [h1]

theorem getF_cons (name : ByteArray) (f : ByteArray × V) (fs : List (ByteArray × V)) : getF name (f :: fs) = if cmpT f.1 name = 0 then some f.2 else getF name fs := rfl
theorem get_set_same (name : ByteArray) (x : V) : ∀ fs, getF name (setF name x fs) = some x
  | [] => by simp [setF, getF, good_cmpT.refl]
  | f :: fs => by
    have ih := get_set_same name x fs
    simp only [setF]
    split
    · rename_i h; rw [getF_cons, if_pos h]
    · split
      · rw [getF_cons, if_pos (good_cmpT.refl name)]
      · rename_i h _; rw [getF_cons, if_neg h]; exact ih
theorem get_set_other (name m : ByteArray) (x : V) (hm : ¬ cmpT m name = 0) : ∀ fs, getF m (setF name x fs) = getF m fs
  | [] => by
    have := good_cmpT.anti m name
    simp only [setF]
    rw [getF_cons, if_neg (show ¬ cmpT name m = 0 by omega)]
  | f :: fs => by
    have ih := get_set_other name m x hm fs
    have a1 := good_cmpT.anti m name
    simp only [setF]
    split
    · rename_i h
      have e := cmpT_eq h
      rw [getF_cons, getF_cons, if_neg (by rw [e]; omega), if_neg (by rw [e]; omega)]
    · split
      · rw [getF_cons, if_neg (show ¬ cmpT name m = 0 by omega)]
      · rw [getF_cons, getF_cons, ih]
theorem Rises.tail {f : ByteArray × V} {fs : List (ByteArray × V)} (h : Rises (f :: fs)) : Rises fs := by
  cases fs with
  | nil => trivial
  | cons g gs => exact h.2
theorem get_above {name : ByteArray} : ∀ {fs : List (ByteArray × V)} {f : ByteArray × V}, Rises (f :: fs) → 0 < cmpT f.1 name → getF name (f :: fs) = none
  | [], f, _, h => by rw [getF_cons, if_neg (by omega)]; rfl
  | g :: gs, f, hr, h => by
    have a1 := good_cmpT.anti f.1 name
    have a2 := good_cmpT.anti g.1 name
    have h1 := good_cmpT.lt_left (a := name) (b := f.1) (c := g.1) (by omega) (by have := hr.1; omega)
    have h2 := good_cmpT.anti name g.1
    rw [getF_cons, if_neg (by omega)]
    exact get_above hr.2 (by omega)
theorem rises_cons {f : ByteArray × V} : ∀ {fs : List (ByteArray × V)}, Rises fs → (∀ g gs, fs = g :: gs → cmpT f.1 g.1 < 0) → Rises (f :: fs)
  | [], _, _ => trivial
  | g :: gs, h, hh => ⟨hh g gs rfl, h⟩
/-- the first field behind setting. -/
theorem set_head (name : ByteArray) (x : V) (fs : List (ByteArray × V)) : ∀ g gs, setF name x fs = g :: gs → g.1 = name ∨ ∃ h hs, fs = h :: hs ∧ g.1 = h.1 := by
  intro g gs h
  cases fs with
  | nil => simp only [setF, List.cons.injEq] at h; exact .inl (by rw [← h.1])
  | cons f fs =>
    simp only [setF] at h
    split at h
    · simp only [List.cons.injEq] at h; exact .inr ⟨f, fs, rfl, by rw [← h.1]⟩
    · split at h
      · simp only [List.cons.injEq] at h; exact .inl (by rw [← h.1])
      · simp only [List.cons.injEq] at h; exact .inr ⟨f, fs, rfl, by rw [← h.1]⟩
theorem rises_set (name : ByteArray) (x : V) : ∀ {fs}, Rises fs → Rises (setF name x fs)
  | [], _ => trivial
  | f :: fs, h => by
    have ih := rises_set name x h.tail
    have a1 := good_cmpT.anti f.1 name
    simp only [setF]
    split
    · cases fs with
      | nil => trivial
      | cons g gs => exact h
    · split
      · exact ⟨show cmpT name f.1 < 0 by omega, h⟩
      · refine rises_cons ih fun g gs hg => ?_
        rcases set_head name x fs g gs hg with e | ⟨h', hs, e, e2⟩
        · rw [e]; omega
        · subst e
          rw [e2]
          exact h.1
theorem length_set (name : ByteArray) (x : V) : ∀ {fs}, Rises fs → (setF name x fs).length = if (getF name fs).isSome then fs.length else fs.length + 1
  | [], _ => rfl
  | f :: fs, h => by
    have ih := length_set name x h.tail
    simp only [setF]
    split
    · rename_i h1; rw [getF_cons, if_pos h1]; rfl
    · split
      · rename_i h1 h2; rw [get_above h h2]; rfl
      · rename_i h1 h2
        rw [getF_cons, if_neg h1, List.length_cons, ih, List.length_cons]
        split <;> rfl
theorem set_back (name : ByteArray) (x was : V) : ∀ {fs}, Rises fs → getF name fs = some was → setF name was (setF name x fs) = fs
  | [], _, h => by cases h
  | f :: fs, hr, h => by
    have ih := @set_back name x was fs hr.tail
    have hab := @get_above name fs f hr
    rw [getF_cons] at h
    simp only [setF]
    split at h
    · rename_i h1
      have e := Option.some.inj h
      rw [if_pos h1]
      simp only [setF]
      rw [if_pos h1, ← e]
    · rename_i h1
      rw [if_neg h1]
      split
      · rename_i h2
        have := hab h2
        rw [getF_cons, if_neg h1] at this
        rw [this] at h
        cases h
      · rename_i h2
        simp only [setF]
        rw [if_neg h1, if_neg h2, ih h]
theorem get_del (name : ByteArray) : ∀ {fs}, Rises fs → getF name (delF name fs) = none
  | [], _ => rfl
  | f :: fs, h => by
    have ih := get_del name h.tail
    simp only [delF]
    split
    · rename_i h1
      have e := cmpT_eq h1
      cases fs with
      | nil => rfl
      | cons g gs =>
        have := h.1
        have a := good_cmpT.anti f.1 g.1
        exact get_above h.2 (by rw [← e]; omega)
    · rename_i h1
      rw [getF_cons, if_neg h1]
      exact ih
theorem length_del (name : ByteArray) : ∀ {fs}, (getF name fs).isSome = true → (delF name fs).length + 1 = fs.length
  | [], h => by cases h
  | f :: fs, h => by
    rw [getF_cons] at h
    simp only [delF]
    split
    · rfl
    · rename_i h1
      rw [if_neg h1] at h
      rw [List.length_cons, length_del name h, List.length_cons]
theorem del_set (name : ByteArray) (x : V) : ∀ {fs}, getF name fs = none → delF name (setF name x fs) = fs
  | [], _ => by simp [setF, delF, good_cmpT.refl]
  | f :: fs, h => by
    rw [getF_cons] at h
    simp only [setF]
    split at h
    · cases h
    · rename_i h1
      rw [if_neg h1]
      split
      · simp only [delF]
        rw [if_pos (good_cmpT.refl name)]
      · simp only [delF]
        rw [if_neg h1, del_set name x h]
end Go.Proofs.YtnkoblhdbccbeaaGreatDoor

namespace Go.Proofs.YtnkoblhdbccbeaaGreatDoor
open Go.Lib

abbrev brk (l : List UInt8) : Prop := (decodeL l).1 = 65533 ∧ (decodeL l).2 = 1

def hexd (n : Nat) : UInt8 := if n < 10 then UInt8.ofNat (48 + n) else UInt8.ofNat (87 + n)

/-- what stands in quotes of the character that a text begins with. -/
def esc (l : List UInt8) : List UInt8 :=
  if brk l then [92, 117, 102, 102, 102, 100]
  else if (decodeL l).1 = 8 then [92, 98]
  else if (decodeL l).1 = 9 then [92, 116]
  else if (decodeL l).1 = 10 then [92, 110]
  else if (decodeL l).1 = 12 then [92, 102]
  else if (decodeL l).1 = 13 then [92, 114]
  else if (decodeL l).1 < 32 then [92, 117, 48, 48, hexd ((decodeL l).1 / 16), hexd ((decodeL l).1 % 16)]
  else if (decodeL l).1 = 34 ∨ (decodeL l).1 = 92 then [92, UInt8.ofNat (decodeL l).1]
  else l.take (decodeL l).2

def quoN : Nat → List UInt8 → List UInt8
  | 0, _ => []
  | n + 1, l => if l = [] then [] else esc l ++ quoN n (l.drop (decodeL l).2)
def quo (l : List UInt8) : List UInt8 := quoN l.length l

theorem quoN_nil : ∀ n, quoN n [] = []
  | 0 => rfl
  | _ + 1 => by simp [quoN]
theorem quoN_fuel : ∀ (n m : Nat) (l : List UInt8), l.length ≤ n → l.length ≤ m → quoN n l = quoN m l
  | 0, m, l, hn, _ => by
    have : l = [] := List.eq_nil_of_length_eq_zero (by omega)
    subst this
    rw [quoN_nil, quoN_nil]
  | n + 1, 0, l, _, hm => by
    have : l = [] := List.eq_nil_of_length_eq_zero (by omega)
    subst this
    rw [quoN_nil, quoN_nil]
  | n + 1, m + 1, l, hn, hm => by
    by_cases hne : l = []
    · subst hne
      rw [quoN_nil, quoN_nil]
    · have hw := decodeL_width l
      have hl : 0 < l.length := List.length_pos_iff.2 hne
      simp only [quoN, if_neg hne]
      rw [quoN_fuel n m _ (by rw [List.length_drop]; omega) (by rw [List.length_drop]; omega)]
theorem quo_nil : quo [] = [] := rfl
theorem quo_step (l : List UInt8) (hne : l ≠ []) : quo l = esc l ++ quo (l.drop (decodeL l).2) := by
  have hw := decodeL_width l
  have hl : 0 < l.length := List.length_pos_iff.2 hne
  unfold quo
  obtain ⟨n, hn⟩ : ∃ n, l.length = n + 1 := ⟨l.length - 1, by omega⟩
  rw [hn]
  simp only [quoN, if_neg hne]
  rw [quoN_fuel n _ _ (by rw [List.length_drop]; omega) (Nat.le_refl _)]
def quoteL (l : List UInt8) : List UInt8 := 34 :: (quo l ++ [34])

theorem dec_two (a b : UInt8) (r : List UInt8) (c1 : a.toNat / 32 = 6) (c3 : b.toNat / 64 = 2) (cv : 128 ≤ a.toNat % 32 * 64 + b.toNat % 64) : decodeL (a :: b :: r) = (a.toNat % 32 * 64 + b.toNat % 64, 2) := by
  rw [decodeL_N]
  simp only [List.getD_cons_zero, List.getD_cons_succ, List.length_cons]
  unfold decodeN
  rw [if_neg (by omega), if_pos ⟨c1, by omega, c3⟩, if_pos cv]
theorem dec_three (a b c : UInt8) (r : List UInt8) (c1 : a.toNat / 16 = 14) (c3 : b.toNat / 64 = 2) (c4 : c.toNat / 64 = 2) (cv : 2048 ≤ a.toNat % 16 * 4096 + b.toNat % 64 * 64 + c.toNat % 64)
    (cs : a.toNat % 16 * 4096 + b.toNat % 64 * 64 + c.toNat % 64 < 55296 ∨ 57344 ≤ a.toNat % 16 * 4096 + b.toNat % 64 * 64 + c.toNat % 64) : decodeL (a :: b :: c :: r) = (a.toNat % 16 * 4096 + b.toNat % 64 * 64 + c.toNat % 64, 3) := by
  have := a.toNat_lt
  rw [decodeL_N]
  simp only [List.getD_cons_zero, List.getD_cons_succ, List.length_cons]
  unfold decodeN
  rw [if_neg (by omega), if_neg (by omega), if_pos ⟨c1, ⟨by omega, c3⟩, by omega, c4⟩, if_pos ⟨cv, by omega⟩]
theorem dec_four (a b c d : UInt8) (r : List UInt8) (c1 : a.toNat / 8 = 30) (c3 : b.toNat / 64 = 2) (c4 : c.toNat / 64 = 2) (c5 : d.toNat / 64 = 2) (cv : 65536 ≤ a.toNat % 8 * 262144 + b.toNat % 64 * 4096 + c.toNat % 64 * 64 + d.toNat % 64)
    (cw : a.toNat % 8 * 262144 + b.toNat % 64 * 4096 + c.toNat % 64 * 64 + d.toNat % 64 ≤ 1114111) : decodeL (a :: b :: c :: d :: r) = (a.toNat % 8 * 262144 + b.toNat % 64 * 4096 + c.toNat % 64 * 64 + d.toNat % 64, 4) := by
  have := a.toNat_lt
  rw [decodeL_N]
  simp only [List.getD_cons_zero, List.getD_cons_succ, List.length_cons]
  unfold decodeN
  rw [if_neg (by omega), if_neg (by omega), if_neg (by omega), if_pos ⟨c1, ⟨by omega, c3⟩, ⟨by omega, c4⟩, by omega, c5⟩, if_pos ⟨cv, by omega⟩]

/-- the five shapes of what a text begins with. -/
theorem shapes (l : List UInt8) (hne : l ≠ []) :
    (∃ a t, l = a :: t ∧ a.toNat < 128 ∧ decodeL l = (a.toNat, 1)) ∨
    (∃ a b t, l = a :: b :: t ∧ a.toNat / 32 = 6 ∧ b.toNat / 64 = 2 ∧ 128 ≤ a.toNat % 32 * 64 + b.toNat % 64 ∧ decodeL l = (a.toNat % 32 * 64 + b.toNat % 64, 2)) ∨
    (∃ a b c t, l = a :: b :: c :: t ∧ a.toNat / 16 = 14 ∧ b.toNat / 64 = 2 ∧ c.toNat / 64 = 2 ∧ 2048 ≤ a.toNat % 16 * 4096 + b.toNat % 64 * 64 + c.toNat % 64 ∧
      (a.toNat % 16 * 4096 + b.toNat % 64 * 64 + c.toNat % 64 < 55296 ∨ 57344 ≤ a.toNat % 16 * 4096 + b.toNat % 64 * 64 + c.toNat % 64) ∧ decodeL l = (a.toNat % 16 * 4096 + b.toNat % 64 * 64 + c.toNat % 64, 3)) ∨
    (∃ a b c d t, l = a :: b :: c :: d :: t ∧ a.toNat / 8 = 30 ∧ b.toNat / 64 = 2 ∧ c.toNat / 64 = 2 ∧ d.toNat / 64 = 2 ∧ 65536 ≤ a.toNat % 8 * 262144 + b.toNat % 64 * 4096 + c.toNat % 64 * 64 + d.toNat % 64 ∧
      a.toNat % 8 * 262144 + b.toNat % 64 * 4096 + c.toNat % 64 * 64 + d.toNat % 64 ≤ 1114111 ∧ decodeL l = (a.toNat % 8 * 262144 + b.toNat % 64 * 4096 + c.toNat % 64 * 64 + d.toNat % 64, 4)) ∨
    (brk l ∧ decodeL l = (65533, 1) ∧ ∃ a t, l = a :: t ∧ 128 ≤ a.toNat) := by
  have hl : 0 < l.length := List.length_pos_iff.2 hne
  have e0 := decodeL_N l
  match l, hne with
  | [a], _ =>
    rcases decodeN_shape 1 a.toNat 0 0 0 with ⟨c, e⟩ | ⟨c1, c2, c3, cv, e⟩ | ⟨c1, c2, c3, c4, cv, cs, e⟩ | ⟨c1, c2, c3, c4, c5, cv, cw, e⟩ | e
    · exact .inl ⟨a, [], rfl, c, e0.trans e⟩
    · omega
    · omega
    · omega
    · by_cases ha : a.toNat < 128
      · exact .inl ⟨a, [], rfl, ha, decodeL_ascii a [] ha⟩
      · exact .inr (.inr (.inr (.inr ⟨by rw [brk, e0.trans e]; exact ⟨rfl, rfl⟩, e0.trans e, a, [], rfl, by omega⟩)))
  | a :: b :: t, _ =>
    rcases decodeN_shape (a :: b :: t).length ((a :: b :: t).getD 0 0).toNat ((a :: b :: t).getD 1 0).toNat ((a :: b :: t).getD 2 0).toNat ((a :: b :: t).getD 3 0).toNat with ⟨c, e⟩ | ⟨c1, c2, c3, cv, e⟩ | ⟨c1, c2, c3, c4, cv, cs, e⟩ | ⟨c1, c2, c3, c4, c5, cv, cw, e⟩ | e
    · exact .inl ⟨a, b :: t, rfl, c, e0.trans e⟩
    · exact .inr (.inl ⟨a, b, t, rfl, c1, c3, cv, e0.trans e⟩)
    · match t, c2 with
      | c :: t, _ => exact .inr (.inr (.inl ⟨a, b, c, t, rfl, c1, c3, c4, cv, cs, e0.trans e⟩))
    · match t, c2 with
      | c :: d :: t, _ => exact .inr (.inr (.inr (.inl ⟨a, b, c, d, t, rfl, c1, c3, c4, c5, cv, cw, e0.trans e⟩)))
    · by_cases ha : a.toNat < 128
      · exact .inl ⟨a, b :: t, rfl, ha, decodeL_ascii a _ ha⟩
      · exact .inr (.inr (.inr (.inr ⟨by rw [brk, e0.trans e]; exact ⟨rfl, rfl⟩, e0.trans e, a, b :: t, rfl, by omega⟩)))

/-- what was decoded whole is decoded so whatever stands behind it. -/
theorem dec_app (l r : List UInt8) (hne : l ≠ []) (hv : ¬ brk l) : decodeL (l.take (decodeL l).2 ++ r) = decodeL l := by
  rcases shapes l hne with ⟨a, t, rfl, ha, e⟩ | ⟨a, b, t, rfl, c1, c3, cv, e⟩ | ⟨a, b, c, t, rfl, c1, c3, c4, cv, cs, e⟩ | ⟨a, b, c, d, t, rfl, c1, c3, c4, c5, cv, cw, e⟩ | ⟨h, _⟩
  · rw [e]; exact decodeL_ascii a _ ha
  · rw [e]; exact dec_two a b r c1 c3 cv
  · rw [e]; exact dec_three a b c r c1 c3 c4 cv cs
  · rw [e]; exact dec_four a b c d r c1 c3 c4 c5 cv cw
  · exact absurd h hv

theorem dec_bad1 (a : UInt8) (h : 128 ≤ a.toNat) : decodeL [a] = (65533, 1) := by
  rw [decodeL_N]
  simp only [List.getD_cons_zero, List.getD_cons_succ, List.length_cons, List.length_nil, List.getD_nil]
  unfold decodeN
  rw [if_neg (by omega), if_neg (by omega), if_neg (by omega), if_neg (by omega)]
theorem dec_bad2 (a b : UInt8) (h : 224 ≤ a.toNat) : decodeL [a, b] = (65533, 1) := by
  have := a.toNat_lt
  rw [decodeL_N]
  simp only [List.getD_cons_zero, List.getD_cons_succ, List.length_cons, List.length_nil, List.getD_nil]
  unfold decodeN
  rw [if_neg (by omega), if_neg (by omega), if_neg (by omega), if_neg (by omega)]
theorem dec_bad3 (a b c : UInt8) (h : 240 ≤ a.toNat) : decodeL [a, b, c] = (65533, 1) := by
  have := a.toNat_lt
  rw [decodeL_N]
  simp only [List.getD_cons_zero, List.getD_cons_succ, List.length_cons, List.length_nil, List.getD_nil]
  unfold decodeN
  rw [if_neg (by omega), if_neg (by omega), if_neg (by omega), if_neg (by omega)]

/-- what is cut off within a character is none. -/
theorem dec_short (l : List UInt8) (hne : l ≠ []) (hv : ¬ brk l) (k : Nat) (h0 : 0 < k) (hk : k < (decodeL l).2) : decodeL (l.take k) = (65533, 1) := by
  rcases shapes l hne with ⟨a, t, rfl, ha, e⟩ | ⟨a, b, t, rfl, c1, c3, cv, e⟩ | ⟨a, b, c, t, rfl, c1, c3, c4, cv, cs, e⟩ | ⟨a, b, c, d, t, rfl, c1, c3, c4, c5, cv, cw, e⟩ | ⟨h, _⟩
  · rw [e] at hk; simp only at hk; omega
  · rw [e] at hk; simp only at hk
    obtain rfl : k = 1 := by omega
    exact dec_bad1 a (by omega)
  · rw [e] at hk; simp only at hk
    match k, h0, hk with
    | 1, _, _ => exact dec_bad1 a (by omega)
    | 2, _, _ => exact dec_bad2 a b (by omega)
  · rw [e] at hk; simp only at hk
    match k, h0, hk with
    | 1, _, _ => exact dec_bad1 a (by omega)
    | 2, _, _ => exact dec_bad2 a b (by omega)
    | 3, _, _ => exact dec_bad3 a b c (by omega)
  · exact absurd h hv

def hexv (c : Nat) : Option Nat :=
  if 48 ≤ c ∧ c ≤ 57 then some (c - 48) else if 97 ≤ c ∧ c ≤ 102 then some (c - 87) else if 65 ≤ c ∧ c ≤ 70 then some (c - 55) else none
/-- the number of the four digits that bytes begin with. -/
def unitL : List UInt8 → Option Nat
  | a :: b :: c :: d :: _ =>
    match hexv a.toNat with
    | none => none
    | some x => match hexv b.toNat with
      | none => none
      | some y => match hexv c.toNat with
        | none => none
        | some z => match hexv d.toNat with
          | none => none
          | some u => some (((x * 16 + y) * 16 + z) * 16 + u)
  | _ => none
/-- the number of the unit that bytes begin with: a backslash, an u, four digits. -/
def unitU : List UInt8 → Option Nat
  | a :: b :: r => if a.toNat = 92 ∧ b.toNat = 117 then unitL r else none
  | _ => none
/-- the character of the unit, or the two units, that bytes begin with. -/
def unitsL (l : List UInt8) : Option (Nat × Nat) :=
  match unitU l with
  | none => none
  | some a =>
    if 56320 ≤ a ∧ a < 57344 then none
    else if a < 55296 ∨ 57344 ≤ a then some (a, 6)
    else match unitU (l.drop 6) with
      | none => none
      | some b => if 56320 ≤ b ∧ b < 57344 then some (65536 + (a - 55296) * 1024 + (b - 56320), 12) else none
/-- the character of an escape. -/
def escL : List UInt8 → Option (Nat × Nat)
  | a :: x :: r =>
    if x.toNat = 117 then unitsL (a :: x :: r)
    else if x.toNat = 98 then some (8, 2) else if x.toNat = 116 then some (9, 2) else if x.toNat = 110 then some (10, 2)
    else if x.toNat = 102 then some (12, 2) else if x.toNat = 114 then some (13, 2)
    else if x.toNat = 34 ∨ x.toNat = 92 ∨ x.toNat = 47 then some (x.toNat, 2) else none
  | _ => none
/-- the character that bytes between quotes begin with. -/
def one (l : List UInt8) : Option (Nat × Nat) :=
  if (decodeL l).1 < 32 ∨ brk l then none else if (decodeL l).1 = 92 then escL l else some (decodeL l)

theorem hexv_lt {c x : Nat} (h : hexv c = some x) : x < 16 := by
  unfold hexv at h
  split at h
  · cases h; omega
  · split at h
    · cases h; omega
    · split at h
      · cases h; omega
      · cases h
theorem unitL_lt {l : List UInt8} {x : Nat} (h : unitL l = some x) : x < 65536 := by
  unfold unitL at h
  repeat' split at h
  all_goals first | cases h | skip
  rename_i h1 _ _ h2 _ _ h3 _ _ h4
  have := hexv_lt h1; have := hexv_lt h2; have := hexv_lt h3; have := hexv_lt h4
  omega
theorem unitU_lt {l : List UInt8} {x : Nat} (h : unitU l = some x) : x < 65536 := by
  unfold unitU at h
  split at h
  · split at h
    · exact unitL_lt h
    · cases h
  · cases h
theorem unitsL_pos {l : List UInt8} {c n : Nat} (h : unitsL l = some (c, n)) : 1 ≤ n ∧ c ≤ 1114111 := by
  unfold unitsL at h
  split at h
  · cases h
  · rename_i a ha
    have := unitU_lt ha
    split at h
    · cases h
    · split at h
      · simp only [Option.some.injEq, Prod.mk.injEq] at h; omega
      · split at h
        · cases h
        · split at h
          · simp only [Option.some.injEq, Prod.mk.injEq] at h; omega
          · cases h
theorem escL_pos {l : List UInt8} {c n : Nat} (h : escL l = some (c, n)) : 1 ≤ n ∧ c ≤ 1114111 := by
  unfold escL at h
  split at h
  · repeat' split at h
    all_goals first | exact unitsL_pos h | (simp only [Option.some.injEq, Prod.mk.injEq] at h; omega) | cases h
  · cases h
theorem one_pos {l : List UInt8} {c n : Nat} (h : one l = some (c, n)) : 1 ≤ n ∧ c ≤ 1114111 := by
  unfold one at h
  split at h
  · cases h
  · split at h
    · exact escL_pos h
    · have e := Option.some.inj h
      have := decodeL_width l
      have := decodeL_rune l
      rw [e] at *
      exact ⟨by assumption, by assumption⟩
end Go.Proofs.YtnkoblhdbccbeaaGreatDoor
