/-
  Values of documents as plain data: their order, their fields. No conditions beyond those stated.
-/
import Derived.Lib.SlicesS
namespace Go.Proofs.YtjihfbahcebljaaDoor

/-- a value: its kind, its number, its text, its list, its fields. -/
structure V where
  kind : Int
  num : Int
  text : ByteArray
  list : List V
  fields : List (ByteArray × V)

def cmpI (a b : Int) : Int := if a < b then -1 else if b < a then 1 else 0
def cmpB : List UInt8 → List UInt8 → Int
  | [], [] => 0
  | [], _ :: _ => -1
  | _ :: _, [] => 1
  | x :: xs, y :: ys => if x.toNat < y.toNat then -1 else if y.toNat < x.toNat then 1 else cmpB xs ys
def cmpT (a b : ByteArray) : Int := cmpB a.toList b.toList
def cmpL {α : Type} (f : α → α → Int) : List α → List α → Int
  | [], [] => 0
  | [], _ :: _ => -1
  | _ :: _, [] => 1
  | x :: xs, y :: ys => if f x y = 0 then cmpL f xs ys else f x y
def cmpF (g : V → V → Int) (p q : ByteArray × V) : Int := if cmpT p.1 q.1 = 0 then g p.2 q.2 else cmpT p.1 q.1
/-- how two values stand to one another, so deep. -/
def cmpV : Nat → V → V → Int
  | 0, _, _ => 0
  | n + 1, a, b =>
    if a.kind = b.kind then
      (if a.kind = 1 ∨ a.kind = 2 then cmpI a.num b.num
       else if a.kind = 3 then cmpT a.text b.text
       else if a.kind = 4 then cmpL (cmpV n) a.list b.list
       else if a.kind = 5 then cmpL (cmpF (cmpV n)) a.fields b.fields
       else 0)
    else cmpI a.kind b.kind

/-- an order: it holds both ways round, and from the first to the last of three. -/
structure Good {α : Type} (f : α → α → Int) : Prop where
  anti : ∀ a b, f a b = - f b a
  trans : ∀ a b c, f a b ≤ 0 → f b c ≤ 0 → f a c ≤ 0
section
variable {α : Type} {f : α → α → Int}
theorem Good.refl (h : Good f) (a : α) : f a a = 0 := by have := h.anti a a; omega
theorem Good.lt_left (h : Good f) {a b c : α} (h1 : f a b < 0) (h2 : f b c ≤ 0) : f a c < 0 := by
  have h3 := h.trans a b c (by omega) h2
  rcases Int.lt_or_eq_of_le h3 with h4 | h4
  · exact h4
  · have h5 := h.anti a c
    have h6 := h.trans b c a h2 (by omega)
    have h7 := h.anti a b
    omega
theorem Good.lt_right (h : Good f) {a b c : α} (h1 : f a b ≤ 0) (h2 : f b c < 0) : f a c < 0 := by
  have h3 := h.trans a b c h1 (by omega)
  rcases Int.lt_or_eq_of_le h3 with h4 | h4
  · exact h4
  · have h5 := h.anti a c
    have h6 := h.trans c a b (by omega) h1
    have h7 := h.anti b c
    omega
theorem Good.eq_left (h : Good f) {a b c : α} (h1 : f a b = 0) : f a c = f b c ∨ ((f a c < 0 ∧ f b c < 0) ∨ (0 < f a c ∧ 0 < f b c)) := by
  have a1 := h.anti a b
  have a2 := h.anti a c
  have a3 := h.anti b c
  rcases Int.lt_trichotomy (f b c) 0 with h2 | h2 | h2
  · exact .inr (.inl ⟨h.lt_right (by omega) h2, h2⟩)
  · left
    have h3 := h.trans a b c (by omega) (by omega)
    have h4 := h.trans c b a (by omega) (by omega)
    omega
  · refine .inr (.inr ⟨?_, h2⟩)
    have h3 := h.lt_left (a := c) (b := b) (c := a) (by omega) (by omega)
    omega
end

theorem good_cmpI : Good cmpI where
  anti a b := by unfold cmpI; repeat' split <;> try omega
  trans a b c := by unfold cmpI; repeat' split <;> try omega

theorem cmpB_anti : ∀ a b, cmpB a b = - cmpB b a
  | [], [] => rfl
  | [], _ :: _ => rfl
  | _ :: _, [] => rfl
  | x :: xs, y :: ys => by
    have := cmpB_anti xs ys
    simp only [cmpB]
    repeat' split
    all_goals omega
theorem cmpB_trans : ∀ a b c, cmpB a b ≤ 0 → cmpB b c ≤ 0 → cmpB a c ≤ 0
  | [], _, [], _, _ => by simp [cmpB]
  | [], _, _ :: _, _, _ => by simp [cmpB]
  | _ :: _, [], _, h, _ => by simp [cmpB] at h
  | _ :: _, _ :: _, [], _, h => by simp [cmpB] at h
  | x :: xs, y :: ys, z :: zs, h1, h2 => by
    have ih := cmpB_trans xs ys zs
    simp only [cmpB] at h1 h2 ⊢
    repeat' split at h1
    all_goals repeat' split at h2
    all_goals repeat' split
    all_goals first | omega | exact ih (by assumption) (by assumption)
theorem good_cmpT : Good cmpT := ⟨fun _ _ => cmpB_anti _ _, fun _ _ _ => cmpB_trans _ _ _⟩

theorem cmpL_anti {α : Type} {f : α → α → Int} (h : Good f) : ∀ a b, cmpL f a b = - cmpL f b a
  | [], [] => rfl
  | [], _ :: _ => rfl
  | _ :: _, [] => rfl
  | x :: xs, y :: ys => by
    have ih := cmpL_anti h xs ys
    have := h.anti x y
    simp only [cmpL]
    repeat' split
    all_goals omega
theorem cmpL_trans {α : Type} {f : α → α → Int} (h : Good f) : ∀ a b c, cmpL f a b ≤ 0 → cmpL f b c ≤ 0 → cmpL f a c ≤ 0
  | [], _, [], _, _ => by simp [cmpL]
  | [], _, _ :: _, _, _ => by simp [cmpL]
  | _ :: _, [], _, h, _ => by simp [cmpL] at h
  | _ :: _, _ :: _, [], _, h => by simp [cmpL] at h
  | x :: xs, y :: ys, z :: zs, h1, h2 => by
    have ih := cmpL_trans h xs ys zs
    simp only [cmpL] at h1 h2 ⊢
    by_cases e1 : f x y = 0
    · rw [if_pos e1] at h1
      by_cases e2 : f y z = 0
      · rw [if_pos e2] at h2
        have e3 : f x z = 0 := by rcases h.eq_left (c := z) e1 with h' | h' | h' <;> omega
        rw [if_pos e3]
        exact ih h1 h2
      · rw [if_neg e2] at h2
        have := h.lt_right (a := x) (b := y) (c := z) (by omega) (by omega)
        rw [if_neg (by omega)]
        omega
    · rw [if_neg e1] at h1
      have h3 : f y z ≤ 0 := by
        split at h2
        · omega
        · exact h2
      have := h.lt_left (a := x) (b := y) (c := z) (by omega) h3
      rw [if_neg (by omega)]
      omega
theorem good_cmpL {α : Type} {f : α → α → Int} (h : Good f) : Good (cmpL f) := ⟨cmpL_anti h, cmpL_trans h⟩

theorem good_cmpF {g : V → V → Int} (h : Good g) : Good (cmpF g) where
  anti p q := by
    have a1 := good_cmpT.anti p.1 q.1
    have a2 := h.anti p.2 q.2
    unfold cmpF
    repeat' split
    all_goals omega
  trans p q r h1 h2 := by
    unfold cmpF at h1 h2 ⊢
    by_cases e1 : cmpT p.1 q.1 = 0
    · rw [if_pos e1] at h1
      by_cases e2 : cmpT q.1 r.1 = 0
      · rw [if_pos e2] at h2
        have e3 : cmpT p.1 r.1 = 0 := by rcases good_cmpT.eq_left (c := r.1) e1 with h' | h' | h' <;> omega
        rw [if_pos e3]
        exact h.trans _ _ _ h1 h2
      · rw [if_neg e2] at h2
        have := good_cmpT.lt_right (a := p.1) (b := q.1) (c := r.1) (by omega) (by omega)
        rw [if_neg (by omega)]
        omega
    · rw [if_neg e1] at h1
      have h3 : cmpT q.1 r.1 ≤ 0 := by
        split at h2
        · omega
        · exact h2
      have := good_cmpT.lt_left (a := p.1) (b := q.1) (c := r.1) (by omega) h3
      rw [if_neg (by omega)]
      omega

/-- by kind first, then by what the kind has. -/
theorem good_kind {α : Type} (k : α → Int) (g : Int → α → α → Int) (hg : ∀ i, Good (g i)) : Good (fun a b => if k a = k b then g (k a) a b else cmpI (k a) (k b)) where
  anti a b := by
    have a1 := good_cmpI.anti (k a) (k b)
    have a2 := (hg (k a)).anti a b
    by_cases h : k a = k b
    · simp only [h, if_true] at a2 ⊢
      exact a2
    · simp only [h, if_false, Ne.symm h]
      exact a1
  trans a b c h1 h2 := by
    by_cases e1 : k a = k b
    · by_cases e2 : k b = k c
      · simp only [e1, e2, if_true] at h1 h2 ⊢
        exact (hg (k c)).trans a b c h1 h2
      · have e3 : ¬ k a = k c := fun h => e2 (e1.symm.trans h)
        simp only [e2, if_false] at h2
        simp only [e3, if_false]
        rw [e1]
        exact h2
    · simp only [e1, if_false] at h1
      by_cases e2 : k b = k c
      · have e3 : ¬ k a = k c := fun h => e1 (h.trans e2.symm)
        simp only [e3, if_false]
        rw [← e2]
        exact h1
      · simp only [e2, if_false] at h2
        have h3 := good_cmpI.trans _ _ _ h1 h2
        by_cases e3 : k a = k c
        · exfalso
          rw [e3] at h1
          have := good_cmpI.anti (k b) (k c)
          unfold cmpI at h1 h2
          repeat' split at h1
          all_goals repeat' split at h2
          all_goals omega
        · simp only [e3, if_false]
          exact h3

theorem good_zero {α : Type} : Good (fun _ _ : α => (0 : Int)) := ⟨fun _ _ => rfl, fun _ _ _ h _ => h⟩
theorem good_on {α β : Type} (p : α → β) {f : β → β → Int} (h : Good f) : Good (fun a b => f (p a) (p b)) := ⟨fun _ _ => h.anti _ _, fun _ _ _ => h.trans _ _ _⟩

theorem good_cmpV : ∀ n, Good (cmpV n)
  | 0 => good_zero
  | n + 1 => by
    have ih := good_cmpV n
    refine good_kind V.kind (fun i a b => if i = 1 ∨ i = 2 then cmpI a.num b.num else if i = 3 then cmpT a.text b.text else if i = 4 then cmpL (cmpV n) a.list b.list else if i = 5 then cmpL (cmpF (cmpV n)) a.fields b.fields else 0) (fun i => ?_)
    by_cases h1 : i = 1 ∨ i = 2
    · simp only [h1, if_true]; exact good_on V.num good_cmpI
    · by_cases h3 : i = 3
      · simp only [h3, if_true]; exact good_on V.text good_cmpT
      · by_cases h4 : i = 4
        · simp only [h4, if_true]; exact good_on V.list (good_cmpL ih)
        · by_cases h5 : i = 5
          · simp only [h5, if_true]; exact good_on V.fields (good_cmpL (good_cmpF ih))
          · simp only [h1, h3, h4, h5, if_false]; exact good_zero

/-! the fields of an object -/
def getF (name : ByteArray) : List (ByteArray × V) → Option V
  | [] => none
  | f :: fs => if cmpT f.1 name = 0 then some f.2 else getF name fs
def setF (name : ByteArray) (x : V) : List (ByteArray × V) → List (ByteArray × V)
  | [] => [(name, x)]
  | f :: fs => if cmpT f.1 name = 0 then (f.1, x) :: fs else if 0 < cmpT f.1 name then (name, x) :: f :: fs else f :: setF name x fs
def delF (name : ByteArray) : List (ByteArray × V) → List (ByteArray × V)
  | [] => []
  | f :: fs => if cmpT f.1 name = 0 then fs else f :: delF name fs
/-- names rise. -/
def Rises : List (ByteArray × V) → Prop
  | [] => True
  | [_] => True
  | f :: g :: fs => cmpT f.1 g.1 < 0 ∧ Rises (g :: fs)

theorem cmpB_range : ∀ a b, cmpB a b = -1 ∨ cmpB a b = 0 ∨ cmpB a b = 1
  | [], [] => .inr (.inl rfl)
  | [], _ :: _ => .inl rfl
  | _ :: _, [] => .inr (.inr rfl)
  | x :: xs, y :: ys => by
    have := cmpB_range xs ys
    simp only [cmpB]
    repeat' split
    all_goals omega
theorem cmpB_eq : ∀ {a b}, cmpB a b = 0 → a = b
  | [], [], _ => rfl
  | [], _ :: _, h => by simp [cmpB] at h
  | _ :: _, [], h => by simp [cmpB] at h
  | x :: xs, y :: ys, h => by
    simp only [cmpB] at h
    split at h
    · omega
    · split at h
      · omega
      · have e : x = y := UInt8.toNat_inj.1 (by omega)
        rw [e, cmpB_eq h]
theorem cmpT_eq {a b : ByteArray} (h : cmpT a b = 0) : a = b := by
  have e := cmpB_eq h
  exact (Lib.bytes_beq_iff a b).1 (by rw [e]; simp)
theorem bytesLess_eq : ∀ a b, Op.bytesLess a b = decide (cmpB a b < 0)
  | [], [] => rfl
  | [], _ :: _ => rfl
  | _ :: _, [] => rfl
  | x :: xs, y :: ys => by
    have ih := bytesLess_eq xs ys
    simp only [Op.bytesLess, cmpB, ih]
    by_cases h1 : x.toNat < y.toNat
    · have : x < y := UInt8.lt_iff_toNat_lt.2 h1
      simp [h1, this]
    · have n1 : ¬ x < y := fun h => h1 (UInt8.lt_iff_toNat_lt.1 h)
      by_cases h2 : y.toNat < x.toNat
      · have ne : x ≠ y := fun h => by subst h; omega
        simp [h1, h2, n1, ne]
      · have e : x = y := UInt8.toNat_inj.1 (by omega)
        subst e
        simp [h1]

theorem getF_cons (name : ByteArray) (f : ByteArray × V) (fs : List (ByteArray × V)) : getF name (f :: fs) = if cmpT f.1 name = 0 then some f.2 else getF name fs := rfl
theorem get_set_same (name : ByteArray) (x : V) : ∀ fs, getF name (setF name x fs) = some x
  | [] => by simp [setF, getF, good_cmpT.refl]
  | f :: fs => by
    have ih := get_set_same name x fs
    simp only [setF]
    split
    · rename_i h; rw [getF_cons, if_pos h]
    · split
      · rw [getF_cons, if_pos (good_cmpT.refl name)]
      · rename_i h _; rw [getF_cons, if_neg h]; exact ih
theorem get_set_other (name m : ByteArray) (x : V) (hm : ¬ cmpT m name = 0) : ∀ fs, getF m (setF name x fs) = getF m fs
  | [] => by
    have := good_cmpT.anti m name
    simp only [setF]
    rw [getF_cons, if_neg (show ¬ cmpT name m = 0 by omega)]
  | f :: fs => by
    have ih := get_set_other name m x hm fs
    have a1 := good_cmpT.anti m name
    simp only [setF]
    split
    · rename_i h
      have e := cmpT_eq h
      rw [getF_cons, getF_cons, if_neg (by rw [e]; omega), if_neg (by rw [e]; omega)]
    · split
      · rw [getF_cons, if_neg (show ¬ cmpT name m = 0 by omega)]
      · rw [getF_cons, getF_cons, ih]
theorem Rises.tail {f : ByteArray × V} {fs : List (ByteArray × V)} (h : Rises (f :: fs)) : Rises fs := by
  cases fs with
  | nil => trivial
  | cons g gs => exact h.2
theorem get_above {name : ByteArray} : ∀ {fs : List (ByteArray × V)} {f : ByteArray × V}, Rises (f :: fs) → 0 < cmpT f.1 name → getF name (f :: fs) = none
  | [], f, _, h => by rw [getF_cons, if_neg (by omega)]; rfl
  | g :: gs, f, hr, h => by
    have a1 := good_cmpT.anti f.1 name
    have a2 := good_cmpT.anti g.1 name
    have h1 := good_cmpT.lt_left (a := name) (b := f.1) (c := g.1) (by omega) (by have := hr.1; omega)
    have h2 := good_cmpT.anti name g.1
    rw [getF_cons, if_neg (by omega)]
    exact get_above hr.2 (by omega)
theorem rises_cons {f : ByteArray × V} : ∀ {fs : List (ByteArray × V)}, Rises fs → (∀ g gs, fs = g :: gs → cmpT f.1 g.1 < 0) → Rises (f :: fs)
  | [], _, _ => trivial
  | g :: gs, h, hh => ⟨hh g gs rfl, h⟩
/-- the first field behind setting. -/
theorem set_head (name : ByteArray) (x : V) (fs : List (ByteArray × V)) : ∀ g gs, setF name x fs = g :: gs → g.1 = name ∨ ∃ h hs, fs = h :: hs ∧ g.1 = h.1 := by
  intro g gs h
  cases fs with
  | nil => simp only [setF, List.cons.injEq] at h; exact .inl (by rw [← h.1])
  | cons f fs =>
    simp only [setF] at h
    split at h
    · simp only [List.cons.injEq] at h; exact .inr ⟨f, fs, rfl, by rw [← h.1]⟩
    · split at h
      · simp only [List.cons.injEq] at h; exact .inl (by rw [← h.1])
      · simp only [List.cons.injEq] at h; exact .inr ⟨f, fs, rfl, by rw [← h.1]⟩
theorem rises_set (name : ByteArray) (x : V) : ∀ {fs}, Rises fs → Rises (setF name x fs)
  | [], _ => trivial
  | f :: fs, h => by
    have ih := rises_set name x h.tail
    have a1 := good_cmpT.anti f.1 name
    simp only [setF]
    split
    · cases fs with
      | nil => trivial
      | cons g gs => exact h
    · split
      · exact ⟨show cmpT name f.1 < 0 by omega, h⟩
      · refine rises_cons ih fun g gs hg => ?_
        rcases set_head name x fs g gs hg with e | ⟨h', hs, e, e2⟩
        · rw [e]; omega
        · subst e
          rw [e2]
          exact h.1
theorem length_set (name : ByteArray) (x : V) : ∀ {fs}, Rises fs → (setF name x fs).length = if (getF name fs).isSome then fs.length else fs.length + 1
  | [], _ => rfl
  | f :: fs, h => by
    have ih := length_set name x h.tail
    simp only [setF]
    split
    · rename_i h1; rw [getF_cons, if_pos h1]; rfl
    · split
      · rename_i h1 h2; rw [get_above h h2]; rfl
      · rename_i h1 h2
        rw [getF_cons, if_neg h1, List.length_cons, ih, List.length_cons]
        split <;> rfl
theorem set_back (name : ByteArray) (x was : V) : ∀ {fs}, Rises fs → getF name fs = some was → setF name was (setF name x fs) = fs
  | [], _, h => by cases h
  | f :: fs, hr, h => by
    have ih := @set_back name x was fs hr.tail
    have hab := @get_above name fs f hr
    rw [getF_cons] at h
    simp only [setF]
    split at h
    · rename_i h1
      have e := Option.some.inj h
      rw [if_pos h1]
      simp only [setF]
      rw [if_pos h1, ← e]
    · rename_i h1
      rw [if_neg h1]
      split
      · rename_i h2
        have := hab h2
        rw [getF_cons, if_neg h1] at this
        rw [this] at h
        cases h
      · rename_i h2
        simp only [setF]
        rw [if_neg h1, if_neg h2, ih h]
theorem get_del (name : ByteArray) : ∀ {fs}, Rises fs → getF name (delF name fs) = none
  | [], _ => rfl
  | f :: fs, h => by
    have ih := get_del name h.tail
    simp only [delF]
    split
    · rename_i h1
      have e := cmpT_eq h1
      cases fs with
      | nil => rfl
      | cons g gs =>
        have := h.1
        have a := good_cmpT.anti f.1 g.1
        exact get_above h.2 (by rw [← e]; omega)
    · rename_i h1
      rw [getF_cons, if_neg h1]
      exact ih
theorem length_del (name : ByteArray) : ∀ {fs}, (getF name fs).isSome = true → (delF name fs).length + 1 = fs.length
  | [], h => by cases h
  | f :: fs, h => by
    rw [getF_cons] at h
    simp only [delF]
    split
    · rfl
    · rename_i h1
      rw [if_neg h1] at h
      rw [List.length_cons, length_del name h, List.length_cons]
theorem del_set (name : ByteArray) (x : V) : ∀ {fs}, getF name fs = none → delF name (setF name x fs) = fs
  | [], _ => by simp [setF, delF, good_cmpT.refl]
  | f :: fs, h => by
    rw [getF_cons] at h
    simp only [setF]
    split at h
    · cases h
    · rename_i h1
      rw [if_neg h1]
      split
      · simp only [delF]
        rw [if_pos (good_cmpT.refl name)]
      · simp only [delF]
        rw [if_neg h1, del_set name x h]
end Go.Proofs.YtjihfbahcebljaaDoor
