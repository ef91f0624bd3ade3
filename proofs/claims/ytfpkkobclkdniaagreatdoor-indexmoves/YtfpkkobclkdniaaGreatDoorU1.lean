/-
  Values of documents as plain data: their order, their fields. No conditions beyond those stated.
  Entries in order, and trees of nodes that hold them, as plain data. No conditions beyond those stated.
-/
import Derived.Lib.SlicesS
import Derived.Test.YtfpkkobclkdniaaGreatDoorProg
namespace Go.Proofs.YtfpkkobclkdniaaGreatDoor

/-- a value: its kind, its number, its text, its list, its fields. -/
structure V where
  kind : Int
  num : Int
  text : ByteArray
  list : List V
  fields : List (ByteArray × V)

def cmpI (a b : Int) : Int := if a < b then -1 else if b < a then 1 else 0
def cmpB : List UInt8 → List UInt8 → Int
  | [], [] => 0
  | [], _ :: _ => -1
  | _ :: _, [] => 1
  | x :: xs, y :: ys => if x.toNat < y.toNat then -1 else if y.toNat < x.toNat then 1 else cmpB xs ys
def cmpT (a b : ByteArray) : Int := cmpB a.toList b.toList
def cmpL {α : Type} (f : α → α → Int) : List α → List α → Int
  | [], [] => 0
  | [], _ :: _ => -1
  | _ :: _, [] => 1
  | x :: xs, y :: ys => if f x y = 0 then cmpL f xs ys else f x y
def cmpF (g : V → V → Int) (p q : ByteArray × V) : Int := if cmpT p.1 q.1 = 0 then g p.2 q.2 else cmpT p.1 q.1
/-- how two values stand to one another, so deep. -/
def cmpV : Nat → V → V → Int
  | 0, _, _ => 0
  | n + 1, a, b =>
    if a.kind = b.kind then
      (if a.kind = 1 ∨ a.kind = 2 then cmpI a.num b.num
       else if a.kind = 3 then cmpT a.text b.text
       else if a.kind = 4 then cmpL (cmpV n) a.list b.list
       else if a.kind = 5 then cmpL (cmpF (cmpV n)) a.fields b.fields
       else 0)
    else cmpI a.kind b.kind

/-- an order: it holds both ways round, and from the first to the last of three. -/
structure Good {α : Type} (f : α → α → Int) : Prop where
  anti : ∀ a b, f a b = - f b a
  trans : ∀ a b c, f a b ≤ 0 → f b c ≤ 0 → f a c ≤ 0
section
variable {α : Type} {f : α → α → Int}
theorem Good.refl (h : Good f) (a : α) : f a a = 0 := by have := h.anti a a; omega
theorem Good.lt_left (h : Good f) {a b c : α} (h1 : f a b < 0) (h2 : f b c ≤ 0) : f a c < 0 := by
  have h3 := h.trans a b c (by omega) h2
  rcases Int.lt_or_eq_of_le h3 with h4 | h4
  · exact h4
  · have h5 := h.anti a c
    have h6 := h.trans b c a h2 (by omega)
    have h7 := h.anti a b
    omega
theorem Good.lt_right (h : Good f) {a b c : α} (h1 : f a b ≤ 0) (h2 : f b c < 0) : f a c < 0 := by
  have h3 := h.trans a b c h1 (by omega)
  rcases Int.lt_or_eq_of_le h3 with h4 | h4
  · exact h4
  · have h5 := h.anti a c
    have h6 := h.trans c a b (by omega) h1
    have h7 := h.anti b c
    omega
theorem Good.eq_left (h : Good f) {a b c : α} (h1 : f a b = 0) : f a c = f b c ∨ ((f a c < 0 ∧ f b c < 0) ∨ (0 < f a c ∧ 0 < f b c)) := by
  have a1 := h.anti a b
  have a2 := h.anti a c
  have a3 := h.anti b c
  rcases Int.lt_trichotomy (f b c) 0 with h2 | h2 | h2
  · exact .inr (.inl ⟨h.lt_right (by omega) h2, h2⟩)
  · left
    have h3 := h.trans a b c (by omega) (by omega)
    have h4 := h.trans c b a (by omega) (by omega)
    omega
  · refine .inr (.inr ⟨?_, h2⟩)
    have h3 := h.lt_left (a := c) (b := b) (c := a) (by omega) (by omega)
    omega
end

theorem good_cmpI : Good cmpI where
  anti a b := by unfold cmpI; repeat' split <;> try omega
  trans a b c := by unfold cmpI; repeat' split <;> try omega

theorem cmpB_anti : ∀ a b, cmpB a b = - cmpB b a
  | [], [] => rfl
  | [], _ :: _ => rfl
  | _ :: _, [] => rfl
  | x :: xs, y :: ys => by
    have := cmpB_anti xs ys
    simp only [cmpB]
    repeat' split
    all_goals omega
theorem cmpB_trans : ∀ a b c, cmpB a b ≤ 0 → cmpB b c ≤ 0 → cmpB a c ≤ 0
  | [], _, [], _, _ => by simp [cmpB]
  | [], _, _ :: _, _, _ => by simp [cmpB]
  | _ :: _, [], _, h, _ => by simp [cmpB] at h
  | _ :: _, _ :: _, [], _, h => by simp [cmpB] at h
  | x :: xs, y :: ys, z :: zs, h1, h2 => by
    have ih := cmpB_trans xs ys zs
    simp only [cmpB] at h1 h2 ⊢
    repeat' split at h1
    all_goals repeat' split at h2
    all_goals repeat' split
    all_goals first | omega | exact ih (by assumption) (by assumption)
theorem good_cmpT : Good cmpT := ⟨fun _ _ => cmpB_anti _ _, fun _ _ _ => cmpB_trans _ _ _⟩

theorem cmpL_anti {α : Type} {f : α → α → Int} (h : Good f) : ∀ a b, cmpL f a b = - cmpL f b a
  | [], [] => rfl
  | [], _ :: _ => rfl
  | _ :: _, [] => rfl
  | x :: xs, y :: ys => by
    have ih := cmpL_anti h xs ys
    have := h.anti x y
    simp only [cmpL]
    repeat' split
    all_goals omega
theorem cmpL_trans {α : Type} {f : α → α → Int} (h : Good f) : ∀ a b c, cmpL f a b ≤ 0 → cmpL f b c ≤ 0 → cmpL f a c ≤ 0
  | [], _, [], _, _ => by simp [cmpL]
  | [], _, _ :: _, _, _ => by simp [cmpL]
  | _ :: _, [], _, h, _ => by simp [cmpL] at h
  | _ :: _, _ :: _, [], _, h => by simp [cmpL] at h
  | x :: xs, y :: ys, z :: zs, h1, h2 => by
    have ih := cmpL_trans h xs ys zs
    simp only [cmpL] at h1 h2 ⊢
    by_cases e1 : f x y = 0
    · rw [if_pos e1] at h1
      by_cases e2 : f y z = 0
      · rw [if_pos e2] at h2
        have e3 : f x z = 0 := by rcases h.eq_left (c := z) e1 with h' | h' | h' <;> omega
        rw [if_pos e3]
        exact ih h1 h2
      · rw [if_neg e2] at h2
        have := h.lt_right (a := x) (b := y) (c := z) (by omega) (by omega)
        rw [if_neg (by omega)]
        omega
    · rw [if_neg e1] at h1
      have h3 : f y z ≤ 0 := by
        split at h2
        · omega
        · exact h2
      have := h.lt_left (a := x) (b := y) (c := z) (by omega) h3
      rw [if_neg (by omega)]
      omega
theorem good_cmpL {α : Type} {f : α → α → Int} (h : Good f) : Good (cmpL f) := ⟨cmpL_anti h, cmpL_trans h⟩

theorem good_cmpF {g : V → V → Int} (h : Good g) : Good (cmpF g) where
  anti p q := by
    have a1 := good_cmpT.anti p.1 q.1
    have a2 := h.anti p.2 q.2
    unfold cmpF
    repeat' split
    all_goals omega
  trans p q r h1 h2 := by
    unfold cmpF at h1 h2 ⊢
    by_cases e1 : cmpT p.1 q.1 = 0
    · rw [if_pos e1] at h1
      by_cases e2 : cmpT q.1 r.1 = 0
      · rw [if_pos e2] at h2
        have e3 : cmpT p.1 r.1 = 0 := by rcases good_cmpT.eq_left (c := r.1) e1 with h' | h' | h' <;> omega
        rw [if_pos e3]
        exact h.trans _ _ _ h1 h2
      · rw [if_neg e2] at h2
        have := good_cmpT.lt_right (a := p.1) (b := q.1) (c := r.1) (by omega) (by omega)
        rw [if_neg (by omega)]
        omega
    · rw [if_neg e1] at h1
      have h3 : cmpT q.1 r.1 ≤ 0 := by
        split at h2
        · omega
        · exact h2
      have := good_cmpT.lt_left (a := p.1) (b := q.1) (c := r.1) (by omega) h3
      rw [if_neg (by omega)]
      omega

/-- by kind first, then by what the kind has. -/
theorem good_kind {α : Type} (k : α → Int) (g : Int → α → α → Int) (hg : ∀ i, Good (g i)) : Good (fun a b => if k a = k b then g (k a) a b else cmpI (k a) (k b)) where
  anti a b := by
    have a1 := good_cmpI.anti (k a) (k b)
    have a2 := (hg (k a)).anti a b
    by_cases h : k a = k b
    · simp only [h, if_true] at a2 ⊢
      exact a2
    · simp only [h, if_false, Ne.symm h]
      exact a1
  trans a b c h1 h2 := by
    by_cases e1 : k a = k b
    · by_cases e2 : k b = k c
      · simp only [e1, e2, if_true] at h1 h2 ⊢
        exact (hg (k c)).trans a b c h1 h2
      · have e3 : ¬ k a = k c := fun h => e2 (e1.symm.trans h)
        simp only [e2, if_false] at h2
        simp only [e3, if_false]
        rw [e1]
        exact h2
    · simp only [e1, if_false] at h1
      by_cases e2 : k b = k c
      · have e3 : ¬ k a = k c := fun h => e1 (h.trans e2.symm)
        simp only [e3, if_false]
        rw [← e2]
        exact h1
      · simp only [e2, if_false] at h2
        have h3 := good_cmpI.trans _ _ _ h1 h2
        by_cases e3 : k a = k c
        · exfalso
          rw [e3] at h1
          have := good_cmpI.anti (k b) (k c)
          unfold cmpI at h1 h2
          repeat' split at h1
          all_goals repeat' split at h2
          all_goals omega
        · simp only [e3, if_false]
          exact h3

theorem good_zero {α : Type} : Good (fun _ _ : α => (0 : Int)) := ⟨fun _ _ => rfl, fun _ _ _ h _ => h⟩
theorem good_on {α β : Type} (p : α → β) {f : β → β → Int} (h : Good f) : Good (fun a b => f (p a) (p b)) := ⟨fun _ _ => h.anti _ _, fun _ _ _ => h.trans _ _ _⟩

theorem good_cmpV : ∀ n, Good (cmpV n)
  | 0 => good_zero
  | n + 1 => by
    have ih := good_cmpV n
    refine good_kind V.kind (fun i a b => if i = 1 ∨ i = 2 then cmpI a.num b.num else if i = 3 then cmpT a.text b.text else if i = 4 then cmpL (cmpV n) a.list b.list else if i = 5 then cmpL (cmpF (cmpV n)) a.fields b.fields else 0) (fun i => ?_)
    by_cases h1 : i = 1 ∨ i = 2
    · simp only [h1, if_true]; exact good_on V.num good_cmpI
    · by_cases h3 : i = 3
      · simp only [h3, if_true]; exact good_on V.text good_cmpT
      · by_cases h4 : i = 4
        · simp only [h4, if_true]; exact good_on V.list (good_cmpL ih)
        · by_cases h5 : i = 5
          · simp only [h5, if_true]; exact good_on V.fields (good_cmpL (good_cmpF ih))
          · simp only [h1, h3, h4, h5, if_false]; exact good_zero

/-! the fields of an object -/
def getF (name : ByteArray) : List (ByteArray × V) → Option V
  | [] => none
  | f :: fs => if cmpT f.1 name = 0 then some f.2 else getF name fs
def setF (name : ByteArray) (x : V) : List (ByteArray × V) → List (ByteArray × V)
  | [] => [(name, x)]
  | f :: fs => if cmpT f.1 name = 0 then (f.1, x) :: fs else if 0 < cmpT f.1 name then (name, x) :: f :: fs else f :: setF name x fs
def delF (name : ByteArray) : List (ByteArray × V) → List (ByteArray × V)
  | [] => []
  | f :: fs => if cmpT f.1 name = 0 then fs else f :: delF name fs
/-- names rise. -/
def Rises : List (ByteArray × V) → Prop
  | [] => True
  | [_] => True
  | f :: g :: fs => cmpT f.1 g.1 < 0 ∧ Rises (g :: fs)

theorem cmpB_range : ∀ a b, cmpB a b = -1 ∨ cmpB a b = 0 ∨ cmpB a b = 1
  | [], [] => .inr (.inl rfl)
  | [], _ :: _ => .inl rfl
  | _ :: _, [] => .inr (.inr rfl)
  | x :: xs, y :: ys => by
    have := cmpB_range xs ys
    simp only [cmpB]
    repeat' split
    all_goals omega
theorem cmpB_eq : ∀ {a b}, cmpB a b = 0 → a = b
  | [], [], _ => rfl
  | [], _ :: _, h => by simp [cmpB] at h
  | _ :: _, [], h => by simp [cmpB] at h
  | x :: xs, y :: ys, h => by
    simp only [cmpB] at h
    split at h
    · omega
    · split at h
      · omega
      · have e : x = y := UInt8.toNat_inj.1 (by omega)
        rw [e, cmpB_eq h]
theorem cmpT_eq {a b : ByteArray} (h : cmpT a b = 0) : a = b := by
  have e := cmpB_eq h
  exact (Lib.bytes_beq_iff a b).1 (by rw [e]; simp)
theorem bytesLess_eq : ∀ a b, Op.bytesLess a b = decide (cmpB a b < 0)
  | [], [] => rfl
  | [], _ :: _ => rfl
  | _ :: _, [] => rfl
  | x :: xs, y :: ys => by
    have ih := bytesLess_eq xs ys
    simp only [Op.bytesLess, cmpB, ih]
    by_cases h1 : x.toNat < y.toNat
    · have : x < y := UInt8.lt_iff_toNat_lt.2 h1
      simp [h1, this]
    · have n1 : ¬ x < y := fun h => h1 (UInt8.lt_iff_toNat_lt.1 h)
      by_cases h2 : y.toNat < x.toNat
      · have ne : x ≠ y := fun h => by subst h; omega
        simp [h1, h2, n1, ne]
      · have e : x = y := UInt8.toNat_inj.1 (by omega)
        subst e
        simp [h1]

theorem getF_cons (name : ByteArray) (f : ByteArray × V) (fs : List (ByteArray × V)) : getF name (f :: fs) = if cmpT f.1 name = 0 then some f.2 else getF name fs := rfl
theorem get_set_same (name : ByteArray) (x : V) : ∀ fs, getF name (setF name x fs) = some x
  | [] => by simp [setF, getF, good_cmpT.refl]
  | f :: fs => by
    have ih := get_set_same name x fs
    simp only [setF]
    split
    · rename_i h; rw [getF_cons, if_pos h]
    · split
      · rw [getF_cons, if_pos (good_cmpT.refl name)]
      · rename_i h _; rw [getF_cons, if_neg h]; exact ih
theorem get_set_other (name m : ByteArray) (x : V) (hm : ¬ cmpT m name = 0) : ∀ fs, getF m (setF name x fs) = getF m fs
  | [] => by
    have := good_cmpT.anti m name
    simp only [setF]
    rw [getF_cons, if_neg (show ¬ cmpT name m = 0 by omega)]
  | f :: fs => by
    have ih := get_set_other name m x hm fs
    have a1 := good_cmpT.anti m name
    simp only [setF]
    split
    · rename_i h
      have e := cmpT_eq h
      rw [getF_cons, getF_cons, if_neg (by rw [e]; omega), if_neg (by rw [e]; omega)]
    · split
      · rw [getF_cons, if_neg (show ¬ cmpT name m = 0 by omega)]
      · rw [getF_cons, getF_cons, ih]
theorem Rises.tail {f : ByteArray × V} {fs : List (ByteArray × V)} (h : Rises (f :: fs)) : Rises fs := by
  cases fs with
  | nil => trivial
  | cons g gs => exact h.2
theorem get_above {name : ByteArray} : ∀ {fs : List (ByteArray × V)} {f : ByteArray × V}, Rises (f :: fs) → 0 < cmpT f.1 name → getF name (f :: fs) = none
  | [], f, _, h => by rw [getF_cons, if_neg (by omega)]; rfl
  | g :: gs, f, hr, h => by
    have a1 := good_cmpT.anti f.1 name
    have a2 := good_cmpT.anti g.1 name
    have h1 := good_cmpT.lt_left (a := name) (b := f.1) (c := g.1) (by omega) (by have := hr.1; omega)
    have h2 := good_cmpT.anti name g.1
    rw [getF_cons, if_neg (by omega)]
    exact get_above hr.2 (by omega)
theorem rises_cons {f : ByteArray × V} : ∀ {fs : List (ByteArray × V)}, Rises fs → (∀ g gs, fs = g :: gs → cmpT f.1 g.1 < 0) → Rises (f :: fs)
  | [], _, _ => trivial
  | g :: gs, h, hh => ⟨hh g gs rfl, h⟩
/-- the first field behind setting. -/
theorem set_head (name : ByteArray) (x : V) (fs : List (ByteArray × V)) : ∀ g gs, setF name x fs = g :: gs → g.1 = name ∨ ∃ h hs, fs = h :: hs ∧ g.1 = h.1 := by
  intro g gs h
  cases fs with
  | nil => simp only [setF, List.cons.injEq] at h; exact .inl (by rw [← h.1])
  | cons f fs =>
    simp only [setF] at h
    split at h
    · simp only [List.cons.injEq] at h; exact .inr ⟨f, fs, rfl, by rw [← h.1]⟩
    · split at h
      · simp only [List.cons.injEq] at h; exact .inl (by rw [← h.1])
      · simp only [List.cons.injEq] at h; exact .inr ⟨f, fs, rfl, by rw [← h.1]⟩
theorem rises_set (name : ByteArray) (x : V) : ∀ {fs}, Rises fs → Rises (setF name x fs)
  | [], _ => trivial
  | f :: fs, h => by
    have ih := rises_set name x h.tail
    have a1 := good_cmpT.anti f.1 name
    simp only [setF]
    split
    · cases fs with
      | nil => trivial
      | cons g gs => exact h
    · split
      · exact ⟨show cmpT name f.1 < 0 by omega, h⟩
      · refine rises_cons ih fun g gs hg => ?_
        rcases set_head name x fs g gs hg with e | ⟨h', hs, e, e2⟩
        · rw [e]; omega
        · subst e
          rw [e2]
          exact h.1
theorem length_set (name : ByteArray) (x : V) : ∀ {fs}, Rises fs → (setF name x fs).length = if (getF name fs).isSome then fs.length else fs.length + 1
  | [], _ => rfl
  | f :: fs, h => by
    have ih := length_set name x h.tail
    simp only [setF]
    split
    · rename_i h1; rw [getF_cons, if_pos h1]; rfl
    · split
      · rename_i h1 h2; rw [get_above h h2]; rfl
      · rename_i h1 h2
        rw [getF_cons, if_neg h1, List.length_cons, ih, List.length_cons]
        split <;> rfl
theorem set_back (name : ByteArray) (x was : V) : ∀ {fs}, Rises fs → getF name fs = some was → setF name was (setF name x fs) = fs
  | [], _, h => by cases h
  | f :: fs, hr, h => by
    have ih := @set_back name x was fs hr.tail
    have hab := @get_above name fs f hr
    rw [getF_cons] at h
    simp only [setF]
    split at h
    · rename_i h1
      have e := Option.some.inj h
      rw [if_pos h1]
      simp only [setF]
      rw [if_pos h1, ← e]
    · rename_i h1
      rw [if_neg h1]
      split
      · rename_i h2
        have := hab h2
        rw [getF_cons, if_neg h1] at this
        rw [this] at h
        cases h
      · rename_i h2
        simp only [setF]
        rw [if_neg h1, if_neg h2, ih h]
theorem get_del (name : ByteArray) : ∀ {fs}, Rises fs → getF name (delF name fs) = none
  | [], _ => rfl
  | f :: fs, h => by
    have ih := get_del name h.tail
    simp only [delF]
    split
    · rename_i h1
      have e := cmpT_eq h1
      cases fs with
      | nil => rfl
      | cons g gs =>
        have := h.1
        have a := good_cmpT.anti f.1 g.1
        exact get_above h.2 (by rw [← e]; omega)
    · rename_i h1
      rw [getF_cons, if_neg h1]
      exact ih
theorem length_del (name : ByteArray) : ∀ {fs}, (getF name fs).isSome = true → (delF name fs).length + 1 = fs.length
  | [], h => by cases h
  | f :: fs, h => by
    rw [getF_cons] at h
    simp only [delF]
    split
    · rfl
    · rename_i h1
      rw [if_neg h1] at h
      rw [List.length_cons, length_del name h, List.length_cons]
theorem del_set (name : ByteArray) (x : V) : ∀ {fs}, getF name fs = none → delF name (setF name x fs) = fs
  | [], _ => by simp [setF, delF, good_cmpT.refl]
  | f :: fs, h => by
    rw [getF_cons] at h
    simp only [setF]
    split at h
    · cases h
    · rename_i h1
      rw [if_neg h1]
      split
      · simp only [delF]
        rw [if_pos (good_cmpT.refl name)]
      · simp only [delF]
        rw [if_neg h1, del_set name x h]
end Go.Proofs.YtfpkkobclkdniaaGreatDoor

namespace Go.Proofs.YtfpkkobclkdniaaGreatDoor

/-- an entry: its key, its number. -/
abbrev En := ByteArray × Int
def cmpE (a b : En) : Int := if cmpT a.1 b.1 = 0 then cmpI a.2 b.2 else cmpT a.1 b.1
theorem cmpI_zero {a b : Int} (h : cmpI a b = 0) : a = b := by unfold cmpI at h; repeat' split at h <;> omega
theorem cmpE_eq {a b : En} (h : cmpE a b = 0) : a = b := by
  unfold cmpE at h
  split at h
  · rename_i h1
    exact Prod.ext (cmpT_eq h1) (cmpI_zero h)
  · rename_i h1
    exact absurd h h1
theorem good_cmpE : Good cmpE where
  anti a b := by
    have h1 := good_cmpT.anti a.1 b.1
    have h2 := good_cmpI.anti a.2 b.2
    unfold cmpE
    by_cases h : cmpT a.1 b.1 = 0
    · rw [if_pos h, if_pos (by omega), h2]
    · rw [if_neg h, if_neg (by omega), h1]
  trans a b c hab hbc := by
    unfold cmpE at *
    by_cases h1 : cmpT a.1 b.1 = 0
    · rw [if_pos h1] at hab
      have e1 := cmpT_eq h1
      rw [e1]
      by_cases h2 : cmpT b.1 c.1 = 0
      · rw [if_pos h2] at hbc ⊢
        exact good_cmpI.trans _ _ _ hab hbc
      · rw [if_neg h2] at hbc ⊢
        exact hbc
    · rw [if_neg h1] at hab
      by_cases h2 : cmpT b.1 c.1 = 0
      · have e2 := cmpT_eq h2
        rw [← e2, if_neg h1]
        exact hab
      · rw [if_neg h2] at hbc
        have h3 : cmpT a.1 c.1 < 0 := good_cmpT.lt_left (by omega) hbc
        rw [if_neg (by omega)]
        omega
theorem ltE_irrefl {a : En} : ¬ cmpE a a < 0 := by have := good_cmpE.refl a; omega
theorem ltE_trans {a b c : En} (h1 : cmpE a b < 0) (h2 : cmpE b c < 0) : cmpE a c < 0 := good_cmpE.lt_left h1 (by omega)
theorem ltE_asymm {a b : En} (h : cmpE a b < 0) : ¬ cmpE b a < 0 := fun h2 => ltE_irrefl (ltE_trans h h2)
theorem ltE_ne {a b : En} (h : cmpE a b < 0) : a ≠ b := fun e => by rw [e] at h; exact ltE_irrefl h
theorem ltE_total (a b : En) : cmpE a b < 0 ∨ a = b ∨ cmpE b a < 0 := by
  have := good_cmpE.anti a b
  rcases Int.lt_trichotomy (cmpE a b) 0 with h | h | h
  · exact .inl h
  · exact .inr (.inl (cmpE_eq h))
  · exact .inr (.inr (by omega))

/-- entries rise. -/
def SortE (l : List En) : Prop := l.Pairwise fun a b => cmpE a b < 0
/-- entries with one more (put: it is not to be put any more), or without it. -/
def withL (e : En) : Bool → List En → List En
  | put, [] => if put then [] else [e]
  | put, x :: l => if x = e then withL e put l else if put = false ∧ cmpE e x < 0 then e :: x :: withL e true l else x :: withL e put l
def insE (e : En) (l : List En) : List En := withL e false l
def delE (e : En) (l : List En) : List En := withL e true l
theorem del_cons {e x : En} {l : List En} : delE e (x :: l) = if x = e then delE e l else x :: delE e l := by
  unfold delE
  rw [withL]
  split
  · rfl
  · rw [if_neg (by simp)]
theorem ins_cons {e x : En} {l : List En} : insE e (x :: l) = if x = e then insE e l else if cmpE e x < 0 then e :: x :: delE e l else x :: insE e l := by
  unfold insE delE
  rw [withL]
  split
  · rfl
  · by_cases h : cmpE e x < 0
    · rw [if_pos ⟨rfl, h⟩, if_pos h]
    · rw [if_neg (fun hh => h hh.2), if_neg h]
theorem mem_delE {e y : En} : ∀ {l : List En}, y ∈ delE e l ↔ y ∈ l ∧ y ≠ e
  | [] => by simp [delE, withL]
  | x :: l => by
    have ih := mem_delE (e := e) (y := y) (l := l)
    rw [del_cons]
    by_cases h : x = e
    · rw [if_pos h, ih]
      subst h
      constructor
      · exact fun h => ⟨List.mem_cons_of_mem _ h.1, h.2⟩
      · intro h
        rcases List.mem_cons.1 h.1 with h1 | h1
        · exact absurd h1 h.2
        · exact ⟨h1, h.2⟩
    · rw [if_neg h, List.mem_cons, ih, List.mem_cons]
      constructor
      · rintro (h1 | h1)
        · exact ⟨.inl h1, by rw [h1]; exact h⟩
        · exact ⟨.inr h1.1, h1.2⟩
      · rintro ⟨h1 | h1, h2⟩
        · exact .inl h1
        · exact .inr ⟨h1, h2⟩
theorem mem_insE {e y : En} : ∀ {l : List En}, y ∈ insE e l ↔ y = e ∨ y ∈ l
  | [] => by simp [insE, withL]
  | x :: l => by
    have ih := mem_insE (e := e) (y := y) (l := l)
    rw [ins_cons]
    by_cases h : x = e
    · rw [if_pos h, ih, List.mem_cons, h]
      constructor
      · rintro (h1 | h1)
        · exact .inl h1
        · exact .inr (.inr h1)
      · rintro (h1 | h1 | h1)
        · exact .inl h1
        · exact .inl h1
        · exact .inr h1
    · rw [if_neg h]
      split
      · rw [List.mem_cons, List.mem_cons, mem_delE, List.mem_cons]
        constructor
        · rintro (h1 | h1 | h1)
          · exact .inl h1
          · exact .inr (.inl h1)
          · exact .inr (.inr h1.1)
        · rintro (h1 | h1 | h1)
          · exact .inl h1
          · exact .inr (.inl h1)
          · by_cases h2 : y = e
            · exact .inl h2
            · exact .inr (.inr ⟨h1, h2⟩)
      · rw [List.mem_cons, ih, List.mem_cons]
        constructor
        · rintro (h1 | h1 | h1)
          · exact .inr (.inl h1)
          · exact .inl h1
          · exact .inr (.inr h1)
        · rintro (h1 | h1 | h1)
          · exact .inr (.inl h1)
          · exact .inl h1
          · exact .inr (.inr h1)
theorem sort_del {e : En} : ∀ {l : List En}, SortE l → SortE (delE e l)
  | [], _ => by simp [delE, withL, SortE]
  | x :: l, h => by
    have h1 := List.pairwise_cons.1 h
    have ih := sort_del (e := e) h1.2
    rw [del_cons]
    split
    · exact ih
    · exact List.pairwise_cons.2 ⟨fun y hy => h1.1 y (mem_delE.1 hy).1, ih⟩
theorem sort_ins {e : En} : ∀ {l : List En}, SortE l → SortE (insE e l)
  | [], _ => by simp [insE, withL, SortE]
  | x :: l, h => by
    have h1 := List.pairwise_cons.1 h
    have ih := sort_ins (e := e) h1.2
    rw [ins_cons]
    split
    · exact ih
    · rename_i hne
      split
      · rename_i hlt
        refine List.pairwise_cons.2 ⟨fun y hy => ?_, List.pairwise_cons.2 ⟨fun y hy => h1.1 y (mem_delE.1 hy).1, sort_del h1.2⟩⟩
        rcases List.mem_cons.1 hy with rfl | hy
        · exact hlt
        · exact ltE_trans hlt (h1.1 y (mem_delE.1 hy).1)
      · rename_i hlt
        refine List.pairwise_cons.2 ⟨fun y hy => ?_, ih⟩
        rcases mem_insE.1 hy with rfl | hy
        · rcases ltE_total x y with h2 | h2 | h2
          · exact h2
          · exact absurd h2 hne
          · exact absurd h2 hlt
        · exact h1.1 y hy
/-- entries that rise are told by which they are. -/
theorem sort_ext : ∀ {a b : List En}, SortE a → SortE b → (∀ x, x ∈ a ↔ x ∈ b) → a = b
  | [], [], _, _, _ => rfl
  | [], y :: b, _, _, h => absurd ((h y).2 (by simp)) (by simp)
  | x :: a, [], _, _, h => absurd ((h x).1 (by simp)) (by simp)
  | x :: a, y :: b, ha, hb, h => by
    have h1 := List.pairwise_cons.1 ha
    have h2 := List.pairwise_cons.1 hb
    have e : x = y := by
      rcases ltE_total x y with h3 | h3 | h3
      · rcases List.mem_cons.1 ((h x).1 (by simp)) with h4 | h4
        · exact h4
        · exact absurd (h2.1 x h4) (ltE_asymm h3)
      · exact h3
      · rcases List.mem_cons.1 ((h y).2 (by simp)) with h4 | h4
        · exact h4.symm
        · exact absurd (h1.1 y h4) (ltE_asymm h3)
    subst e
    congr 1
    refine sort_ext h1.2 h2.2 fun z => ?_
    constructor
    · intro hz
      rcases List.mem_cons.1 ((h z).1 (List.mem_cons_of_mem _ hz)) with h4 | h4
      · exact absurd h4.symm (ltE_ne (h1.1 z hz))
      · exact h4
    · intro hz
      rcases List.mem_cons.1 ((h z).2 (List.mem_cons_of_mem _ hz)) with h4 | h4
      · exact absurd h4.symm (ltE_ne (h2.1 z hz))
      · exact h4
theorem ins_there {e : En} {l : List En} (h : SortE l) (he : e ∈ l) : insE e l = l := sort_ext (sort_ins h) h fun x => by
  rw [mem_insE]
  constructor
  · rintro (h1 | h1)
    · rw [h1]; exact he
    · exact h1
  · exact .inr
theorem del_gone {e : En} {l : List En} (h : SortE l) (he : e ∉ l) : delE e l = l := sort_ext (sort_del h) h fun x => by
  rw [mem_delE]
  exact ⟨fun h1 => h1.1, fun h1 => ⟨h1, fun e2 => he (by rw [← e2]; exact h1)⟩⟩
theorem len_delE {e : En} : ∀ {l : List En}, SortE l → e ∈ l → (delE e l).length + 1 = l.length
  | [], _, he => by cases he
  | x :: l, h, he => by
    have h1 := List.pairwise_cons.1 h
    rw [del_cons]
    by_cases e1 : x = e
    · have : e ∉ l := fun h2 => by rw [e1] at h1; exact ltE_irrefl (h1.1 e h2)
      rw [if_pos e1, del_gone h1.2 this, List.length_cons]
    · rw [if_neg e1, List.length_cons, List.length_cons]
      have := len_delE h1.2 (by
        rcases List.mem_cons.1 he with h2 | h2
        · exact absurd h2.symm e1
        · exact h2)
      omega
theorem len_insE {e : En} : ∀ {l : List En}, SortE l → e ∉ l → (insE e l).length = l.length + 1
  | [], _, _ => by simp [insE, withL]
  | x :: l, h, he => by
    have h1 := List.pairwise_cons.1 h
    have hx : x ≠ e := fun e1 => he (by rw [e1]; simp)
    have hl : e ∉ l := fun h2 => he (List.mem_cons_of_mem _ h2)
    rw [ins_cons, if_neg hx]
    split
    · rw [del_gone h1.2 hl]; simp
    · rw [List.length_cons, len_insE h1.2 hl]; rfl
/-- the first one above, the last one below. -/
def afterE (e : En) (l : List En) : Option En := l.find? fun x => decide (cmpE e x < 0)
def beforeE (e : En) : List En → Option En
  | [] => none
  | x :: l => match beforeE e l with | some y => some y | none => if cmpE x e < 0 then some x else none
theorem after_at : ∀ {l : List En}, SortE l → ∀ {i : Nat} {x : En}, l[i]? = some x → afterE x l = l[i + 1]?
  | [], _, _, _, h => by simp at h
  | y :: l, hs, 0, x, h => by
    have h1 := List.pairwise_cons.1 hs
    simp at h
    subst h
    unfold afterE
    rw [List.find?_cons_of_neg (by simpa using ltE_irrefl)]
    cases l with
    | nil => rfl
    | cons z l => rw [List.find?_cons_of_pos (by simpa using h1.1 z (by simp))]; rfl
  | y :: l, hs, i + 1, x, h => by
    have h1 := List.pairwise_cons.1 hs
    have hx : l[i]? = some x := by simpa using h
    have ih := after_at h1.2 hx
    unfold afterE at ih ⊢
    rw [List.find?_cons_of_neg (by simpa using ltE_asymm (h1.1 x (List.mem_of_getElem? hx))), ih]
    simp
theorem after_none {e : En} {l : List En} (h : afterE e l = none) : ∀ x ∈ l, ¬ cmpE e x < 0 := by
  intro x hx
  have := List.find?_eq_none.1 h x hx
  simpa using this
theorem before_low {e : En} : ∀ {l : List En}, (∀ x ∈ l, ¬ cmpE x e < 0) → beforeE e l = none
  | [], _ => rfl
  | x :: l, h => by
    unfold beforeE
    rw [before_low fun y hy => h y (List.mem_cons_of_mem _ hy)]
    simp only
    rw [if_neg (h x (by simp))]
theorem before_mem {e y : En} : ∀ {l : List En}, beforeE e l = some y → y ∈ l ∧ cmpE y e < 0
  | [], h => by cases h
  | x :: l, h => by
    unfold beforeE at h
    cases hb : beforeE e l with
    | some z =>
      rw [hb] at h
      cases h
      exact ⟨List.mem_cons_of_mem _ (before_mem hb).1, (before_mem hb).2⟩
    | none =>
      rw [hb] at h
      simp only at h
      split at h
      · cases h; rename_i h1; exact ⟨by simp, h1⟩
      · cases h
theorem before_some {e x : En} : ∀ {l : List En}, x ∈ l → cmpE x e < 0 → (beforeE e l).isSome = true
  | [], h, _ => by cases h
  | y :: l, h, hx => by
    unfold beforeE
    cases hb : beforeE e l with
    | some z => rfl
    | none =>
      rcases List.mem_cons.1 h with rfl | h
      · simp [hx]
      · have := before_some h hx
        rw [hb] at this
        cases this
theorem before_at : ∀ {l : List En}, SortE l → ∀ {i : Nat} {x y : En}, l[i]? = some y → l[i + 1]? = some x → beforeE x l = some y
  | [], _, _, _, _, h, _ => by simp at h
  | z :: l, hs, 0, x, y, h, hx => by
    have h1 := List.pairwise_cons.1 hs
    simp at h
    subst h
    have hxl : l[0]? = some x := by simpa using hx
    unfold beforeE
    rw [before_low fun u hu => ?_]
    · simp only
      rw [if_pos (h1.1 x (List.mem_of_getElem? hxl))]
    · cases l with
      | nil => cases hu
      | cons v l =>
        simp at hxl
        subst hxl
        rcases List.mem_cons.1 hu with rfl | hu
        · exact ltE_irrefl
        · exact ltE_asymm ((List.pairwise_cons.1 h1.2).1 u hu)
  | z :: l, hs, i + 1, x, y, h, hx => by
    have h1 := List.pairwise_cons.1 hs
    unfold beforeE
    rw [before_at h1.2 (by simpa using h) (by simpa using hx)]

/-- a node: where it lies, what its two slices are; its entries, the nodes right below it. -/
structure Nd where
  b : Nat
  s : Value
  k : Value
  es : List En
  kids : List Nd
/-- entries, and lists between them. -/
def inter : List En → List (List En) → List En
  | [], ks => ks.flatten
  | es, [] => es
  | e :: es, k :: ks => k ++ e :: inter es ks
/-- all entries of a node that has so many below it, in order. -/
def flatN : Nat → Nd → List En
  | 0, t => t.es
  | n + 1, t => inter t.es (t.kids.map (flatN n))
/-- as many kids as should be, leaves all so deep; how great nodes are. -/
def WfN : Nat → Nd → Prop
  | 0, t => t.kids = []
  | n + 1, t => t.kids.length = t.es.length + 1 ∧ ∀ k ∈ t.kids, WfN n k ∧ 2 ≤ k.es.length ∧ k.es.length ≤ 4
/-- a tree's topmost node. -/
def TopN (n : Nat) (t : Nd) : Prop := WfN n t ∧ t.es.length ≤ 4 ∧ (n = 0 ∨ 1 ≤ t.es.length)
/-- the nodes as they are told: how deep, how many entries, whether a leaf. -/
def nodesN : Nat → Nat → Nd → List (Nat × Nat × Bool)
  | 0, d, t => [(d, t.es.length, true)]
  | n + 1, d, t => (d, t.es.length, false) :: t.kids.flatMap (nodesN n (d + 1))
theorem len_inter : ∀ (es : List En) (ks : List (List En)), ks.length = es.length + 1 → (inter es ks).length = es.length + (ks.map List.length).sum
  | [], [k], _ => by simp [inter]
  | e :: es, [], h => by simp at h
  | e :: es, k :: ks, h => by
    have ih := len_inter es ks (by simpa using h)
    simp only [inter, List.length_append, List.length_cons, List.map_cons, List.sum_cons, ih]
    omega
theorem len_flat0 {t : Nd} : (flatN 0 t).length = t.es.length := rfl
theorem len_flat {n : Nat} {t : Nd} (h : WfN (n + 1) t) : (flatN (n + 1) t).length = t.es.length + (t.kids.map fun k => (flatN n k).length).sum := by
  show (inter t.es (t.kids.map (flatN n))).length = _
  rw [len_inter _ _ (by simpa using h.1), List.map_map]
  rfl
theorem nodes_pos : ∀ (n d : Nat) (t : Nd), 0 < (nodesN n d t).length
  | 0, _, _ => by simp [nodesN]
  | n + 1, d, t => by simp [nodesN]
/-- the head of what is told of a node. -/
theorem nodes_head : ∀ (n d : Nat) (t : Nd), (nodesN n d t)[0]? = some (d, t.es.length, n == 0)
  | 0, _, _ => rfl
  | _n + 1, _, _ => rfl
end Go.Proofs.YtfpkkobclkdniaaGreatDoor
