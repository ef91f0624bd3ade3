/-
  slices.IndexFunc at fields, package value's place and above by their contracts. No conditions beyond those stated.
-/
import Derived.Test.YtjihfbahcebljaaDoorVTwin3
import Derived.Test.YtjihfbahcebljaaDoorVCmp3
namespace Go.Proofs.YtjihfbahcebljaaDoor
open Go.RowKit

/-- where the first one is that is asked for; -1: nowhere. -/
def whereI {α : Type} (p : α → Bool) : List α → Int
  | [] => -1
  | x :: xs => if p x then 0 else if whereI p xs < 0 then -1 else 1 + whereI p xs
theorem whereI_hit {α : Type} (p : α → Bool) : ∀ (k : Nat) (l : List α) (x : α), l[k]? = some x → p x = true → (∀ j y, j < k → l[j]? = some y → p y = false) → whereI p l = k
  | 0, [], _, h, _, _ => by simp at h
  | 0, y :: l, x, h, hp, _ => by simp at h; subst h; simp [whereI, hp]
  | k + 1, [], _, h, _, _ => by simp at h
  | k + 1, y :: l, x, h, hp, hn => by
    have h0 := hn 0 y (by omega) rfl
    have ih := whereI_hit p k l x (by simpa using h) hp fun j z hj hz => hn (j + 1) z (by omega) (by simpa using hz)
    simp only [whereI, h0, ih]
    rw [if_neg (by simp), if_neg (by omega)]
    omega
theorem whereI_miss {α : Type} (p : α → Bool) : ∀ (l : List α), (∀ y ∈ l, p y = false) → whereI p l = -1
  | [], _ => rfl
  | y :: l, h => by
    simp [whereI, h y (by simp), whereI_miss p l fun z hz => h z (by simp [hz])]
theorem whereI_range {α : Type} (p : α → Bool) : ∀ (l : List α), whereI p l = -1 ∨ (0 ≤ whereI p l ∧ whereI p l < l.length)
  | [] => .inl rfl
  | y :: l => by
    have ih := whereI_range p l
    simp only [whereI]
    split
    · right; simp
    · split
      · exact .inl rfl
      · right; simp; omega

theorem beq_cmpT (a b : ByteArray) : (a.toList == b.toList) = decide (cmpT a b = 0) := by
  by_cases h : cmpT a b = 0
  · rw [cmpT_eq h]; simp [good_cmpT.refl]
  · have hne : ¬ a.toList = b.toList := fun e => h (by unfold cmpT; rw [e]; exact good_cmpT.refl b)
    rw [decide_eq_false h]; exact beq_false_of_ne hne
theorem gtr_cmpT (a b : ByteArray) : (!Op.bytesLess a.toList b.toList && !(a.toList == b.toList)) = decide (0 < cmpT a b) := by
  rw [bytesLess_eq, beq_cmpT]
  have : cmpB a.toList b.toList = cmpT a b := rfl
  rw [this]
  by_cases h1 : cmpT a b < 0
  · rw [decide_eq_true h1, decide_eq_false (show ¬ 0 < cmpT a b by omega)]; rfl
  · rw [decide_eq_false h1]
    by_cases h2 : cmpT a b = 0
    · rw [decide_eq_true h2, decide_eq_false (show ¬ 0 < cmpT a b by omega)]; rfl
    · rw [decide_eq_false h2, decide_eq_true (show 0 < cmpT a b by omega)]; rfl

def isName (name : ByteArray) (q : ByteArray × V) : Bool := decide (cmpT q.1 name = 0)
def isAbove (name : ByteArray) (q : ByteArray × V) : Bool := decide (0 < cmpT q.1 name)

/-- ahead of which field a new one is put. -/
def aboveI (name : ByteArray) (fs : List (ByteArray × V)) : Int := if whereI (isAbove name) fs < 0 then fs.length else whereI (isAbove name) fs
end Go.Proofs.YtjihfbahcebljaaDoor
