/-
  Records by rising numbers, as plain data. No conditions beyond those stated.
  Ways to what stands in values, as plain data: what is found, put and cut. No conditions beyond those stated.
  Keys as plain data: what a value's key is. No conditions beyond those stated.
  Values of documents as they lie in memory: rows of cells, so deep. No conditions beyond those stated.
  Rows that are written in place; package twin's list by its contract. No conditions beyond those stated.
-/
import Derived.Test.YtfpkkobclkdniaaGreatDoorU1
import Derived.Lib.AtoiAllCases
import Derived.Lib.ItoaNum
import Derived.Test.YtfpkkobclkdniaaGreatDoorProg
import Derived.WalkKit
import Derived.Below
import Derived.LoopTactic
import Derived.WalkSmall
import Derived.Deep.LoopGhost
import Derived.Deep.RegionWith
import Derived.WalkLawsBesides
import Derived.WalkSpells
import Derived.Lib.LazyBuf
namespace Go.Proofs.YtfpkkobclkdniaaGreatDoor

abbrev Rec := Int × V
/-- how many stand ahead of a number. -/
def aheadH (i : Int) : List Rec → Nat
  | [] => 0
  | r :: rs => if r.1 < i then aheadH i rs + 1 else 0
/-- numbers rise, above one. -/
def RisesR : Int → List Rec → Prop
  | _, [] => True
  | lo, r :: rs => lo < r.1 ∧ RisesR r.1 rs
def getR (i : Int) : List Rec → Option V
  | [] => none
  | r :: rs => if r.1 = i then some r.2 else getR i rs
def setR (i : Int) (v : V) : List Rec → List Rec
  | [] => []
  | r :: rs => if r.1 = i then (i, v) :: rs else r :: setR i v rs
def delR (i : Int) : List Rec → List Rec
  | [] => []
  | r :: rs => if r.1 = i then rs else r :: delR i rs
def nextR (i : Int) : List Rec → Option Rec
  | [] => none
  | r :: rs => if i < r.1 then some r else nextR i rs
/-- all numbers are at most the last. -/
def UpTo (last : Int) (rs : List Rec) : Prop := ∀ r ∈ rs, r.1 ≤ last

theorem RisesR.mono {lo lo' : Int} (hl : lo' ≤ lo) : ∀ {rs : List Rec}, RisesR lo rs → RisesR lo' rs
  | [], _ => trivial
  | _ :: _, h => ⟨by have := h.1; omega, h.2⟩
theorem RisesR.above {lo : Int} : ∀ {rs : List Rec}, RisesR lo rs → ∀ r ∈ rs, lo < r.1
  | [], _, r, hr => by cases hr
  | x :: rs, h, r, hr => by
    rcases List.mem_cons.1 hr with rfl | hr
    · exact h.1
    · have := RisesR.above h.2 r hr
      have := h.1
      omega
theorem get_noneR {i : Int} : ∀ {rs : List Rec}, (∀ r ∈ rs, r.1 ≠ i) → getR i rs = none
  | [], _ => rfl
  | x :: rs, h => by
    unfold getR
    rw [if_neg (h x (by simp))]
    exact get_noneR fun r hr => h r (by simp [hr])
theorem get_low {lo i : Int} {rs : List Rec} (h : RisesR lo rs) (hi : i ≤ lo) : getR i rs = none :=
  get_noneR fun r hr => by have := h.above r hr; omega
theorem get_memR {i : Int} {v : V} : ∀ {rs : List Rec}, getR i rs = some v → (i, v) ∈ rs
  | [], h => by cases h
  | x :: rs, h => by
    unfold getR at h
    split at h
    · rename_i e; cases h; subst e; simp
    · exact List.mem_cons_of_mem _ (get_memR h)
theorem get_high {last i : Int} {rs : List Rec} (h : UpTo last rs) (hi : last < i) : getR i rs = none :=
  get_noneR fun r hr => by have := h r hr; omega

theorem ahead_le (i : Int) : ∀ rs : List Rec, aheadH i rs ≤ rs.length
  | [] => Nat.le_refl _
  | r :: rs => by
    have := ahead_le i rs
    simp only [aheadH, List.length_cons]
    split <;> omega
theorem ahead_lt (i : Int) : ∀ (rs : List Rec) (j : Nat) (x : Rec), j < aheadH i rs → rs[j]? = some x → x.1 < i
  | [], _, _, h, _ => by simp [aheadH] at h
  | r :: rs, 0, x, h, hx => by
    simp only [aheadH] at h
    split at h
    · rename_i h0; simp at hx; subst hx; exact h0
    · omega
  | r :: rs, j + 1, x, h, hx => by
    simp only [aheadH] at h
    split at h
    · exact ahead_lt i rs j x (by omega) (by simpa using hx)
    · omega
theorem ahead_ge (i : Int) : ∀ {lo : Int} (rs : List Rec), RisesR lo rs → ∀ (j : Nat) (x : Rec), aheadH i rs ≤ j → rs[j]? = some x → i ≤ x.1
  | _, [], _, _, _, _, hx => by simp at hx
  | lo, r :: rs, hr, j, x, h, hx => by
    simp only [aheadH] at h
    split at h
    · cases j with
      | zero => omega
      | succ j => exact ahead_ge i rs hr.2 j x (by omega) (by simpa using hx)
    · rename_i h0
      cases j with
      | zero => simp at hx; subst hx; omega
      | succ j =>
        have hm : x ∈ rs := List.mem_of_getElem? (by simpa using hx)
        have := hr.2.above x hm
        omega
/-- where a number that is there stands. -/
theorem ahead_at (i : Int) : ∀ {lo : Int} (rs : List Rec), RisesR lo rs → (∀ v, getR i rs = some v → rs[aheadH i rs]? = some (i, v)) ∧ (getR i rs = none → ∀ x, rs[aheadH i rs]? = some x → i < x.1)
  | _, [], _ => ⟨fun v h => (by cases h), fun _ x hx => by simp at hx⟩
  | lo, r :: rs, hr => by
    have ih := ahead_at i rs hr.2
    by_cases h0 : r.1 < i
    · simp only [aheadH, if_pos h0, getR, if_neg (show ¬ r.1 = i by omega), List.getElem?_cons_succ]
      exact ih
    · simp only [aheadH, if_neg h0, getR, List.getElem?_cons_zero]
      by_cases h1 : r.1 = i
      · rw [if_pos h1]
        exact ⟨fun v hv => (by cases hv; rw [← h1]), fun h => (by cases h)⟩
      · rw [if_neg h1]
        exact ⟨fun v hv => (by rw [get_low hr.2 (by omega)] at hv; cases hv), fun _ x hx => (by cases hx; omega)⟩
theorem ahead_end {i lo : Int} {rs : List Rec} (hr : RisesR lo rs) (h : aheadH i rs = rs.length) : getR i rs = none := by
  cases hg : getR i rs with
  | none => rfl
  | some v =>
    have := (ahead_at i rs hr).1 v hg
    rw [h] at this
    simp at this
theorem ahead_is {i lo : Int} {rs : List Rec} (hr : RisesR lo rs) {x : Rec} (hx : rs[aheadH i rs]? = some x) : (x.1 = i) ↔ (getR i rs).isSome = true := by
  have h := ahead_at i rs hr
  cases hg : getR i rs with
  | none => have := h.2 hg x hx; simp; omega
  | some v => have := h.1 v hg; rw [hx] at this; cases this; simp
theorem del_split {i : Int} : ∀ {lo : Int} (rs : List Rec), RisesR lo rs → (getR i rs).isSome = true → delR i rs = rs.take (aheadH i rs) ++ rs.drop (aheadH i rs + 1)
  | _, [], _, h => by cases h
  | lo, r :: rs, hr, h => by
    by_cases h1 : r.1 = i
    · simp only [delR, if_pos h1, aheadH, if_neg (show ¬ r.1 < i by omega)]; rfl
    · have h2 : (getR i rs).isSome = true := by simpa [getR, h1] using h
      have h3 : r.1 < i := by
        rcases Int.lt_or_le r.1 i with h3 | h3
        · exact h3
        · rw [get_low hr.2 h3] at h2; cases h2
      simp only [delR, if_neg h1, aheadH, if_pos h3]
      rw [del_split rs hr.2 h2]
      rfl
theorem set_split {i : Int} {v : V} : ∀ {lo : Int} (rs : List Rec), RisesR lo rs → (getR i rs).isSome = true → setR i v rs = rs.set (aheadH i rs) (i, v)
  | _, [], _, h => by cases h
  | lo, r :: rs, hr, h => by
    by_cases h1 : r.1 = i
    · simp only [setR, if_pos h1, aheadH, if_neg (show ¬ r.1 < i by omega)]; rfl
    · have h2 : (getR i rs).isSome = true := by simpa [getR, h1] using h
      have h3 : r.1 < i := by
        rcases Int.lt_or_le r.1 i with h3 | h3
        · exact h3
        · rw [get_low hr.2 h3] at h2; cases h2
      simp only [setR, if_neg h1, aheadH, if_pos h3]
      rw [set_split rs hr.2 h2]
      rfl
theorem del_noneR {i : Int} : ∀ {rs : List Rec}, getR i rs = none → delR i rs = rs
  | [], _ => rfl
  | r :: rs, h => by
    unfold getR at h
    split at h
    · cases h
    · rename_i h1; simp only [delR, if_neg h1, del_noneR h]
theorem set_noneR {i : Int} {v : V} : ∀ {rs : List Rec}, getR i rs = none → setR i v rs = rs
  | [], _ => rfl
  | r :: rs, h => by
    unfold getR at h
    split at h
    · cases h
    · rename_i h1; simp only [setR, if_neg h1, set_noneR h]
theorem next_isR (i : Int) : ∀ {lo : Int} (rs : List Rec), RisesR lo rs → nextR i rs = rs[if (getR i rs).isSome then aheadH i rs + 1 else aheadH i rs]?
  | _, [], _ => by simp [nextR]
  | lo, r :: rs, hr => by
    have ih := next_isR i rs hr.2
    by_cases h0 : r.1 < i
    · simp only [nextR, if_neg (show ¬ i < r.1 by omega), aheadH, if_pos h0, getR, if_neg (show ¬ r.1 = i by omega), ih]
      split <;> simp
    · by_cases h1 : r.1 = i
      · simp only [nextR, if_neg (show ¬ i < r.1 by omega), aheadH, if_neg h0, getR, if_pos h1, Option.isSome_some, if_true, List.getElem?_cons_succ]
        cases rs with
        | nil => rfl
        | cons s rs => simp [nextR, show i < s.1 by have := hr.2.1; omega]
      · simp only [nextR, if_pos (show i < r.1 by omega), aheadH, if_neg h0, getR, if_neg h1, get_low hr.2 (show i ≤ r.1 by omega), Option.isSome_none]
        rfl
theorem next_someR {i : Int} {r : Rec} : ∀ {lo : Int} {rs : List Rec}, RisesR lo rs → nextR i rs = some r → i < r.1 ∧ getR r.1 rs = some r.2 ∧ ∀ j, i < j → j < r.1 → getR j rs = none
  | _, [], _, h => by cases h
  | lo, x :: rs, hr, h => by
    unfold nextR at h
    split at h
    · rename_i h0
      cases h
      exact ⟨h0, by simp [getR], fun j h1 h2 => by simp only [getR, if_neg (show ¬ r.1 = j by omega)]; exact get_low hr.2 (by omega)⟩
    · rename_i h0
      obtain ⟨h1, h2, h3⟩ := next_someR hr.2 h
      exact ⟨h1, by simp only [getR, if_neg (show ¬ x.1 = r.1 by omega), h2], fun j a b => by simp only [getR, if_neg (show ¬ x.1 = j by omega), h3 j a b]⟩
theorem next_noneR {i : Int} : ∀ {rs : List Rec}, nextR i rs = none → ∀ j, i < j → getR j rs = none
  | [], _, _, _ => rfl
  | x :: rs, h, j, hj => by
    unfold nextR at h
    split at h
    · cases h
    · rename_i h0
      simp only [getR, if_neg (show ¬ x.1 = j by omega), next_noneR h j hj]

theorem get_setR {i j : Int} {v : V} : ∀ {rs : List Rec}, getR j (setR i v rs) = if j = i then (if (getR i rs).isSome then some v else none) else getR j rs
  | [] => by simp [setR, getR]
  | r :: rs => by
    have ih := get_setR (i := i) (j := j) (v := v) (rs := rs)
    by_cases h1 : r.1 = i
    · simp only [setR, if_pos h1, getR]
      by_cases hj : j = i
      · subst hj; simp
      · rw [if_neg (fun e => hj e.symm), if_neg hj, if_neg (fun e => hj (by omega))]
    · simp only [setR, if_neg h1, getR]
      by_cases hj : j = i
      · subst hj; rw [if_neg h1, ih, if_pos rfl, if_pos rfl]
      · rw [if_neg hj, ih, if_neg hj]
theorem get_delR {i j : Int} : ∀ {lo : Int} {rs : List Rec}, RisesR lo rs → getR j (delR i rs) = if j = i then none else getR j rs
  | _, [], _ => by simp [delR, getR]
  | lo, r :: rs, hr => by
    have ih := get_delR (i := i) (j := j) hr.2
    by_cases h1 : r.1 = i
    · simp only [delR, if_pos h1, getR]
      by_cases hj : j = i
      · subst hj; rw [if_pos rfl]; exact get_low hr.2 (by omega)
      · rw [if_neg hj, if_neg (fun e => hj (by omega))]
    · simp only [delR, if_neg h1, getR]
      by_cases hj : j = i
      · subst hj; rw [if_neg h1, ih, if_pos rfl, if_pos rfl]
      · rw [if_neg hj, ih, if_neg hj]
theorem get_appR {last j : Int} {v : V} : ∀ {rs : List Rec}, UpTo last rs → getR j (rs ++ [(last + 1, v)]) = if j = last + 1 then some v else getR j rs
  | [], _ => by simp [getR, eq_comm]
  | r :: rs, h => by
    have ih := get_appR (j := j) (v := v) (rs := rs) fun x hx => h x (by simp [hx])
    have h0 := h r (by simp)
    simp only [List.cons_append, getR]
    by_cases hj : j = last + 1
    · subst hj; rw [if_neg (by omega), ih, if_pos rfl, if_pos rfl]
    · rw [if_neg hj, ih, if_neg hj]
theorem len_setR {i : Int} {v : V} : ∀ {rs : List Rec}, (setR i v rs).length = rs.length
  | [] => rfl
  | r :: rs => by unfold setR; split <;> simp [len_setR]
theorem len_delR {i : Int} : ∀ {rs : List Rec}, (delR i rs).length = rs.length - if (getR i rs).isSome then 1 else 0
  | [] => rfl
  | r :: rs => by
    have ih := len_delR (i := i) (rs := rs)
    unfold delR getR
    split
    · simp
    · rw [List.length_cons, List.length_cons, ih]
      split
      · rename_i h
        have : 0 < rs.length := by
          cases rs with
          | nil => cases h
          | cons => simp
        omega
      · rfl
theorem upTo_set {i last : Int} {v : V} : ∀ {rs : List Rec}, UpTo last rs → UpTo last (setR i v rs)
  | [], h => h
  | r :: rs, h => by
    unfold setR
    have h0 := h r (by simp)
    split
    · rename_i e
      intro x hx
      rcases List.mem_cons.1 hx with rfl | hx
      · show i ≤ last; omega
      · exact h x (by simp [hx])
    · intro x hx
      rcases List.mem_cons.1 hx with rfl | hx
      · exact h0
      · exact upTo_set (rs := rs) (fun y hy => h y (by simp [hy])) x hx
theorem mem_delR {i : Int} : ∀ {rs : List Rec} {x : Rec}, x ∈ delR i rs → x ∈ rs
  | [], _, h => h
  | r :: rs, x, h => by
    unfold delR at h
    split at h
    · simp [h]
    · rcases List.mem_cons.1 h with rfl | h
      · simp
      · simp [mem_delR h]
theorem upTo_del {i last : Int} {rs : List Rec} (h : UpTo last rs) : UpTo last (delR i rs) := fun x hx => h x (mem_delR hx)
theorem rises_setR {i : Int} {v : V} : ∀ {lo : Int} {rs : List Rec}, RisesR lo rs → RisesR lo (setR i v rs)
  | _, [], _ => trivial
  | lo, r :: rs, h => by
    unfold setR
    split
    · rename_i e; subst e; exact h
    · exact ⟨h.1, rises_setR h.2⟩
theorem rises_delR {i : Int} : ∀ {lo : Int} {rs : List Rec}, RisesR lo rs → RisesR lo (delR i rs)
  | _, [], _ => trivial
  | lo, r :: rs, h => by
    unfold delR
    split
    · exact h.2.mono (by have := h.1; omega)
    · exact ⟨h.1, rises_delR h.2⟩
theorem rises_app {last : Int} {v : V} : ∀ {lo : Int} {rs : List Rec}, RisesR lo rs → UpTo last rs → lo ≤ last → RisesR lo (rs ++ [(last + 1, v)])
  | lo, [], _, _, hl => ⟨by show lo < last + 1; omega, trivial⟩
  | lo, r :: rs, h, hu, _ => ⟨h.1, rises_app h.2 (fun x hx => hu x (by simp [hx])) (hu r (by simp))⟩
theorem upTo_app {last : Int} {v : V} {rs : List Rec} (h : UpTo last rs) : UpTo (last + 1) (rs ++ [(last + 1, v)]) := by
  intro x hx
  rcases List.mem_append.1 hx with hx | hx
  · have := h x hx; omega
  · simp at hx; subst hx; exact Int.le_refl _
theorem mem_getR {i : Int} {v : V} : ∀ {lo : Int} {rs : List Rec}, RisesR lo rs → (i, v) ∈ rs → getR i rs = some v
  | _, [], _, h => by cases h
  | lo, r :: rs, hr, h => by
    rcases List.mem_cons.1 h with h | h
    · subst h; simp [getR]
    · have := hr.2.above _ h
      simp only [getR, if_neg (show ¬ r.1 = i by simp at this; omega)]
      exact mem_getR hr.2 h
end Go.Proofs.YtfpkkobclkdniaaGreatDoor

namespace Go.Proofs.YtfpkkobclkdniaaGreatDoor

/-- the place in a list that a part names: a number's digits, just as they are written. -/
def placeOf (part : ByteArray) : Option Nat :=
  match Lib.atoiAll part.data.toList with
  | .ok k => if 0 ≤ k ∧ Lib.itoa k = part.data.toList then some k.toNat else none
  | _ => none
/-- what a part names. -/
def atP (v : V) (part : ByteArray) : Option V :=
  if v.kind = 5 then getF part v.fields
  else if v.kind = 4 then (placeOf part).bind fun i => v.list[i]?
  else none
def findP (v : V) : List ByteArray → Option V
  | [] => some v
  | p :: ps => (atP v p).bind fun x => findP x ps
def objE : V := ⟨5, 0, ⟨#[]⟩, [], []⟩
def putP (v : V) : List ByteArray → V → Option V
  | [], x => some x
  | p :: ps, x =>
    if v.kind = 5 then (putP ((getF p v.fields).getD objE) ps x).map fun y => { v with fields := setF p y v.fields }
    else if v.kind = 4 then (placeOf p).bind fun i => (v.list[i]?).bind fun z => (putP z ps x).map fun y => { v with list := v.list.set i y }
    else none
def cutP (v : V) : List ByteArray → Option V
  | [] => none
  | [p] => if v.kind = 5 ∧ (getF p v.fields).isSome then some { v with fields := delF p v.fields } else none
  | p :: q :: ps =>
    if v.kind = 5 then (getF p v.fields).bind fun z => (cutP z (q :: ps)).map fun y => { v with fields := setF p y v.fields }
    else if v.kind = 4 then (placeOf p).bind fun i => (v.list[i]?).bind fun z => (cutP z (q :: ps)).map fun y => { v with list := v.list.set i y }
    else none
end Go.Proofs.YtfpkkobclkdniaaGreatDoor

namespace Go.Proofs.YtfpkkobclkdniaaGreatDoor

/-- a byte as it is written. -/
def wr1 (c : UInt8) : List UInt8 := if c = 0 then [0, 255] else [c]
/-- bytes, written. -/
def writtenL (l : List UInt8) : List UInt8 := l.flatMap wr1 ++ [0, 1]
/-- an Int with its highest bit turned. -/
def turnN (n : Int) : Nat := (n + 9223372036854775808).toNat
/-- eight bytes, the highest first. -/
def eight (m : Nat) : List UInt8 := [UInt8.ofNat (m / 72057594037927936), UInt8.ofNat (m / 281474976710656), UInt8.ofNat (m / 1099511627776), UInt8.ofNat (m / 4294967296), UInt8.ofNat (m / 16777216), UInt8.ofNat (m / 65536), UInt8.ofNat (m / 256), UInt8.ofNat m]
def intL (n : Int) : List UInt8 := eight (turnN n)
def fieldL (f : V → List UInt8) (p : ByteArray × V) : List UInt8 := 1 :: (writtenL p.1.data.toList ++ f p.2)
def tailV (f : V → List UInt8) (v : V) : List UInt8 :=
  if v.kind = 1 then [UInt8.ofNat v.num.toNat]
  else if v.kind = 2 then intL v.num
  else if v.kind = 3 then writtenL v.text.data.toList
  else if v.kind = 4 then v.list.flatMap f ++ [0]
  else if v.kind = 5 then v.fields.flatMap (fieldL f) ++ [0]
  else []
/-- a value's key, so deep. -/
def putV : Nat → V → List UInt8
  | 0, _ => []
  | n + 1, v => UInt8.ofNat (v.kind.toNat + 1) :: tailV (putV n) v
end Go.Proofs.YtfpkkobclkdniaaGreatDoor

namespace Go.Proofs.YtfpkkobclkdniaaGreatDoor
open Go.RowKit

/-- a value in a list: what it is, where its list and its fields lie. -/
structure El where
  v : V
  l : Value
  f : Value
/-- a field. -/
structure Fl where
  name : ByteArray
  v : V
  l : Value
  f : Value
def El.enc (e : El) : List Value := [.int .i64 e.v.kind, .int .i64 e.v.num, .string e.v.text, e.l, e.f]
def Fl.enc (e : Fl) : List Value := [.string e.name, .int .i64 e.v.kind, .int .i64 e.v.num, .string e.v.text, e.l, e.f]
def Fl.pair (e : Fl) : ByteArray × V := (e.name, e.v)
def encEs (es : List El) : List Value := es.flatMap El.enc
def encFs (fs : List Fl) : List Value := fs.flatMap Fl.enc

/-- a slice that begins at the head of a row; its block is one of those that are let be. -/
def RowAt (ok : Nat → Prop) (W : World) (t k : Nat) (s : Value) (n : Nat) (xs : List Value) : Prop :=
  W.ownsRow 0 t k s n xs ∧ n ≤ 1000000 ∧ ∀ b, s.ownBlock = some b → ok b
/-- a value's list and fields, so deep. -/
def Rep (ok : Nat → Prop) : Nat → World → V → Value → Value → Prop
  | 0, _, v, l, f => v.list = [] ∧ v.fields = [] ∧ l = .slice none 0 0 ∧ f = .slice none 0 0
  | n + 1, W, v, l, f =>
    (∃ es : List El, es.map El.v = v.list ∧ RowAt ok W 40 5 l es.length (encEs es) ∧ ∀ e ∈ es, Rep ok n W e.v e.l e.f) ∧
    (∃ fs : List Fl, fs.map Fl.pair = v.fields ∧ RowAt ok W 72 6 f fs.length (encFs fs) ∧ ∀ e ∈ fs, Rep ok n W e.v e.l e.f)
/-- wherever it lies. -/
def Lies (n : Nat) (W : World) (v : V) (l f : Value) : Prop := Rep (fun _ => True) n W v l f

theorem lt_of_cell {w : World} {a : Addr} {v : Value} (h : w.cell? a = some v) : a.block < w.heap.size := by
  rcases Nat.lt_or_ge a.block w.heap.size with h' | h'
  · exact h'
  · simp [World.cell?, Array.getElem?_eq_none h'] at h
theorem lt_of_heap {w : World} {b : Nat} {o : Obj} (h : w.heap[b]? = some o) : b < w.heap.size := (Array.getElem?_eq_some_iff.1 h).1

section
variable {ok ok' : Nat → Prop} {W W' : World} {t k n : Nat} {s : Value} {xs : List Value}
theorem ownsRow_move {base : Nat} (hm : ∀ b, s.ownBlock = some b → b < W.heap.size → base ≤ b ∧ W'.heap[b]? = W.heap[b]?) {base0 : Nat} (h : W.ownsRow base0 t k s n xs) : W'.ownsRow base t k s n xs := by
  refine ⟨h.1, ?_⟩
  rcases h.2 with hn | ⟨g, cap, cur, rfl, hb, hgg, rest⟩
  · exact .inl hn
  · obtain ⟨h1, h2⟩ := hm g rfl (lt_of_heap hgg)
    exact .inr ⟨g, cap, cur, rfl, h1, h2.trans hgg, rest⟩
theorem RowAt.move (hm : ∀ b, ok b → b < W.heap.size → ok' b ∧ W'.heap[b]? = W.heap[b]?) (h : RowAt ok W t k s n xs) : RowAt ok' W' t k s n xs := by
  refine ⟨ownsRow_move (fun b hb hl => ⟨Nat.zero_le _, (hm b (h.2.2 b hb) hl).2⟩) h.1, h.2.1, fun b hb => (hm b (h.2.2 b hb) (h.1.lt b hb).2).1⟩
theorem RowAt.slice (h : RowAt ok W t k s n xs) : ∃ a c, s = .slice a n c := by
  rcases h.1.2 with ⟨rfl, rfl⟩ | ⟨g, cap, cur, rfl, _⟩
  · exact ⟨_, _, rfl⟩
  · exact ⟨_, _, rfl⟩
theorem RowAt.nil : RowAt ok W t k (.slice none 0 0) 0 [] := ⟨World.ownsRow_nil _ _ _ _, Nat.zero_le _, fun b hb => by cases hb⟩
/-- what a row with something in it is. -/
theorem RowAt.cells (h : RowAt ok W t k s n xs) (hn : 0 < n) : ∃ b c, s = .slice (some ⟨b, 0, none⟩) n c ∧ b < W.heap.size ∧ ok b ∧ n ≤ c ∧ c ≤ 9223372036854775807 ∧ ∀ j u, xs[j]? = some u → W.cell? ⟨b, j, none⟩ = some u := by
  rcases h.1.2 with ⟨rfl, rfl⟩ | ⟨g, cap, cur, rfl, hb, hg, h1, h2, h3, h4⟩
  · omega
  · refine ⟨g, cap, rfl, lt_of_heap hg, h.2.2 g rfl, h1, by unfold maxLen at h2; omega, fun j u hj => ?_⟩
    have := h.1.cells (g := g) rfl j u hj
    rwa [Addr.add_lit, Nat.zero_add] at this
end

theorem Rep.move {ok ok' : Nat → Prop} {W W' : World} (hm : ∀ b, ok b → b < W.heap.size → ok' b ∧ W'.heap[b]? = W.heap[b]?) : ∀ {n : Nat} {v : V} {l f : Value}, Rep ok n W v l f → Rep ok' n W' v l f
  | 0, _, _, _, h => h
  | _n + 1, _, _, _, ⟨⟨es, e1, e2, e3⟩, ⟨fs, f1, f2, f3⟩⟩ =>
    ⟨⟨es, e1, e2.move hm, fun e he => Rep.move hm (e3 e he)⟩, ⟨fs, f1, f2.move hm, fun e he => Rep.move hm (f3 e he)⟩⟩
theorem Rep.below {ok : Nat → Prop} {W W' : World} (hb : Below W.heap.size W W') {n : Nat} {v : V} {l f : Value} (h : Rep ok n W v l f) : Rep ok n W' v l f :=
  h.move fun b hk hl => ⟨hk, hb.block b hl⟩
theorem Rep.lies {ok : Nat → Prop} {W : World} {n : Nat} {v : V} {l f : Value} (h : Rep ok n W v l f) : Lies n W v l f := h.move fun _ _ _ => ⟨trivial, rfl⟩
theorem Lies.below {W W' : World} (hb : Below W.heap.size W W') {n : Nat} {v : V} {l f : Value} (h : Lies n W v l f) : Lies n W' v l f := Rep.below hb h
theorem Rep.up {ok : Nat → Prop} {W : World} : ∀ {n : Nat} {v : V} {l f : Value}, Rep ok n W v l f → Rep ok (n + 1) W v l f
  | 0, v, l, f, ⟨h1, h2, h3, h4⟩ => by
    subst h3 h4
    exact ⟨⟨[], h1.symm, RowAt.nil, fun e he => by cases he⟩, ⟨[], h2.symm, RowAt.nil, fun e he => by cases he⟩⟩
  | n + 1, _, _, _, ⟨⟨es, e1, e2, e3⟩, ⟨fs, f1, f2, f3⟩⟩ =>
    ⟨⟨es, e1, e2, fun e he => Rep.up (e3 e he)⟩, ⟨fs, f1, f2, fun e he => Rep.up (f3 e he)⟩⟩
theorem Rep.le {ok : Nat → Prop} {W : World} {n m : Nat} {v : V} {l f : Value} (h : Rep ok n W v l f) (hm : n ≤ m) : Rep ok m W v l f := by
  induction hm with
  | refl => exact h
  | step _ ih => exact ih.up
theorem Rep.slices {ok : Nat → Prop} {W : World} {n : Nat} {v : V} {l f : Value} (h : Rep ok n W v l f) : ∃ al cl af cf, l = .slice al v.list.length cl ∧ f = .slice af v.fields.length cf := by
  obtain ⟨⟨es, e1, e2, e3⟩, ⟨fs, f1, f2, f3⟩⟩ := h.up
  obtain ⟨a, c, h1⟩ := e2.slice
  obtain ⟨a', c', h2⟩ := f2.slice
  exact ⟨a, c, a', c', by rw [h1, ← e1, List.length_map], by rw [h2, ← f1, List.length_map]⟩

theorem encEs_length : ∀ es : List El, (encEs es).length = es.length * 5
  | [] => rfl
  | e :: es => by
    have ih := encEs_length es
    unfold encEs at ih ⊢
    rw [List.flatMap_cons, List.length_append, ih, List.length_cons]
    simp [El.enc]; omega
theorem encFs_length : ∀ fs : List Fl, (encFs fs).length = fs.length * 6
  | [] => rfl
  | e :: es => by
    have ih := encFs_length es
    unfold encFs at ih ⊢
    rw [List.flatMap_cons, List.length_append, ih, List.length_cons]
    simp [Fl.enc]; omega
/-- the cells of the value at a place. -/
theorem encEs_at : ∀ (es : List El) (i j : Nat) (e : El) (u : Value), es[i]? = some e → e.enc[j]? = some u → (encEs es)[i * 5 + j]? = some u
  | [], _, _, _, _, h, _ => by simp at h
  | e :: es, 0, j, e', u, h, hu => by
    simp at h; subst h
    have : j < e.enc.length := (List.getElem?_eq_some_iff.1 hu).1
    unfold encEs
    rw [List.flatMap_cons, List.getElem?_append_left (by omega), Nat.zero_mul, Nat.zero_add]; exact hu
  | e :: es, i + 1, j, e', u, h, hu => by
    have ih := encEs_at es i j e' u (by simpa using h) hu
    unfold encEs at ih ⊢
    rw [List.flatMap_cons, List.getElem?_append_right (by simp [El.enc]; omega)]
    rw [← ih]; congr 1; simp [El.enc]; omega
theorem encFs_at : ∀ (es : List Fl) (i j : Nat) (e : Fl) (u : Value), es[i]? = some e → e.enc[j]? = some u → (encFs es)[i * 6 + j]? = some u
  | [], _, _, _, _, h, _ => by simp at h
  | e :: es, 0, j, e', u, h, hu => by
    simp at h; subst h
    have : j < e.enc.length := (List.getElem?_eq_some_iff.1 hu).1
    unfold encFs
    rw [List.flatMap_cons, List.getElem?_append_left (by omega), Nat.zero_mul, Nat.zero_add]; exact hu
  | e :: es, i + 1, j, e', u, h, hu => by
    have ih := encFs_at es i j e' u (by simpa using h) hu
    unfold encFs at ih ⊢
    rw [List.flatMap_cons, List.getElem?_append_right (by simp [Fl.enc]; omega)]
    rw [← ih]; congr 1; simp [Fl.enc]; omega
/-- the five cells of the value at place i of a row. -/
theorem RowAt.el {ok : Nat → Prop} {W : World} {t b c n : Nat} {es : List El} (h : RowAt ok W t 5 (.slice (some ⟨b, 0, none⟩) n c) n (encEs es)) {i : Nat} {e : El} (he : es[i]? = some e) :
    W.cell? ⟨b, i * 5, none⟩ = some (.int .i64 e.v.kind) ∧ W.cell? ⟨b, i * 5 + 1, none⟩ = some (.int .i64 e.v.num) ∧ W.cell? ⟨b, i * 5 + 2, none⟩ = some (.string e.v.text) ∧ W.cell? ⟨b, i * 5 + 3, none⟩ = some e.l ∧ W.cell? ⟨b, i * 5 + 4, none⟩ = some e.f := by
  have hc : ∀ j u, (encEs es)[j]? = some u → W.cell? ⟨b, j, none⟩ = some u := fun j u hj => by
    have := h.1.cells (g := b) rfl j u hj
    rwa [Addr.add_lit, Nat.zero_add] at this
  exact ⟨hc _ _ (encEs_at es i 0 e _ he rfl), hc _ _ (encEs_at es i 1 e _ he rfl), hc _ _ (encEs_at es i 2 e _ he rfl), hc _ _ (encEs_at es i 3 e _ he rfl), hc _ _ (encEs_at es i 4 e _ he rfl)⟩
theorem RowAt.fl {ok : Nat → Prop} {W : World} {t b c n : Nat} {es : List Fl} (h : RowAt ok W t 6 (.slice (some ⟨b, 0, none⟩) n c) n (encFs es)) {i : Nat} {e : Fl} (he : es[i]? = some e) :
    W.cell? ⟨b, i * 6, none⟩ = some (.string e.name) ∧ W.cell? ⟨b, i * 6 + 1, none⟩ = some (.int .i64 e.v.kind) ∧ W.cell? ⟨b, i * 6 + 2, none⟩ = some (.int .i64 e.v.num) ∧ W.cell? ⟨b, i * 6 + 3, none⟩ = some (.string e.v.text) ∧ W.cell? ⟨b, i * 6 + 4, none⟩ = some e.l ∧ W.cell? ⟨b, i * 6 + 5, none⟩ = some e.f := by
  have hc : ∀ j u, (encFs es)[j]? = some u → W.cell? ⟨b, j, none⟩ = some u := fun j u hj => by
    have := h.1.cells (g := b) rfl j u hj
    rwa [Addr.add_lit, Nat.zero_add] at this
  exact ⟨hc _ _ (encFs_at es i 0 e _ he rfl), hc _ _ (encFs_at es i 1 e _ he rfl), hc _ _ (encFs_at es i 2 e _ he rfl), hc _ _ (encFs_at es i 3 e _ he rfl), hc _ _ (encFs_at es i 4 e _ he rfl), hc _ _ (encFs_at es i 5 e _ he rfl)⟩
end Go.Proofs.YtfpkkobclkdniaaGreatDoor

namespace Go.Proofs.YtfpkkobclkdniaaGreatDoor
open Go.RowKit

theorem infoV : (Tryz.prog.info? 40).map (fun i => (i.zero, i.size, i.bytes)) = some (some (.agg #[.int .i64 0, .int .i64 0, .string ⟨#[]⟩, .slice none 0 0, .slice none 0 0]), 5, 80) := by kernel_rfl
theorem infoF : (Tryz.prog.info? 72).map (fun i => (i.zero, i.size, i.bytes)) = some (some (.agg #[.string ⟨#[]⟩, .int .i64 0, .int .i64 0, .string ⟨#[]⟩, .slice none 0 0, .slice none 0 0]), 6, 96) := by kernel_rfl

theorem make_rows {t e : TypeId} {z : Value} {size bytes : Nat} (ht : Tryz.prog.underlying t = some (.slice e)) (hinfo : (Tryz.prog.info? e).map (fun i => (i.zero, i.size, i.bytes)) = some (some z, size, bytes)) (n : Nat) (hb : bytes * n ≤ 281474976710656) (h63 : n ≤ 9223372036854775807) (w : World) :
    (Instr.makeSlice t (.int .i64 (n : Int)) (.int .i64 (n : Int))).run Tryz.prog w = .ok (.slice (some ⟨w.heap.size, 0, none⟩) n n) (w.alloc (.cells (madeCells z.cells (n * size)) e)) := by
  obtain ⟨i, hi, hzz⟩ := Option.map_eq_some_iff.1 hinfo
  simp only [Prod.mk.injEq] at hzz
  obtain ⟨hz, hs, hby⟩ := hzz
  subst hs hby
  have hb' : (i.bytes : Int) * (n : Int) ≤ 281474976710656 := by
    have h : ((i.bytes * n : Nat) : Int) ≤ 281474976710656 := by omega
    rwa [Int.natCast_mul] at h
  have hr := run_make (P := Tryz.prog) w t e i z ht hi hz .i64 .i64 n n (by omega) (Int.le_refl _) hb' (by omega)
  simpa only [Int.toNat_natCast] using hr

section
variable {W : World} {B t : Nat} {fr : Nat × Nat} {cur : Array Value} {i : Nat}
theorem set5_eq (h : i + 5 ≤ cur.size) (a0 a1 a2 a3 a4 : Value) : (((((cur.setIfInBounds i a0).setIfInBounds (i + 1) a1).setIfInBounds (i + 2) a2).setIfInBounds (i + 3) a3).setIfInBounds (i + 4) a4).toList = cur.toList.take i ++ [a0, a1, a2, a3, a4] ++ cur.toList.drop (i + 5) := by
  have hl : i + 5 ≤ cur.toList.length := by simpa using h
  simp only [Array.toList_setIfInBounds]
  have s1 := list_seg_step cur.toList i a0 [a1, a2, a3, a4] (by simpa using hl)
  have s2 := list_seg_step (cur.toList.set i a0) (i + 1) a1 [a2, a3, a4] (by simp; omega)
  have s3 := list_seg_step ((cur.toList.set i a0).set (i + 1) a1) (i + 2) a2 [a3, a4] (by simp; omega)
  have s4 := list_seg_step (((cur.toList.set i a0).set (i + 1) a1).set (i + 2) a2) (i + 3) a3 [a4] (by simp; omega)
  have s5 := list_seg_step ((((cur.toList.set i a0).set (i + 1) a1).set (i + 2) a2).set (i + 3) a3) (i + 4) a4 [] (by simp; omega)
  simp only [List.length_cons, List.length_nil, Nat.add_assoc, Nat.reduceAdd, List.append_nil, List.take_append_drop] at s1 s2 s3 s4 s5
  rw [s5, s4, s3, s2, s1]
theorem set6_eq (h : i + 6 ≤ cur.size) (a0 a1 a2 a3 a4 a5 : Value) : ((((((cur.setIfInBounds i a0).setIfInBounds (i + 1) a1).setIfInBounds (i + 2) a2).setIfInBounds (i + 3) a3).setIfInBounds (i + 4) a4).setIfInBounds (i + 5) a5).toList = cur.toList.take i ++ [a0, a1, a2, a3, a4, a5] ++ cur.toList.drop (i + 6) := by
  have hl : i + 6 ≤ cur.toList.length := by simpa using h
  simp only [Array.toList_setIfInBounds]
  have s1 := list_seg_step cur.toList i a0 [a1, a2, a3, a4, a5] (by simpa using hl)
  have s2 := list_seg_step (cur.toList.set i a0) (i + 1) a1 [a2, a3, a4, a5] (by simp; omega)
  have s3 := list_seg_step ((cur.toList.set i a0).set (i + 1) a1) (i + 2) a2 [a3, a4, a5] (by simp; omega)
  have s4 := list_seg_step (((cur.toList.set i a0).set (i + 1) a1).set (i + 2) a2) (i + 3) a3 [a4, a5] (by simp; omega)
  have s5 := list_seg_step ((((cur.toList.set i a0).set (i + 1) a1).set (i + 2) a2).set (i + 3) a3) (i + 4) a4 [a5] (by simp; omega)
  have s6 := list_seg_step (((((cur.toList.set i a0).set (i + 1) a1).set (i + 2) a2).set (i + 3) a3).set (i + 4) a4) (i + 5) a5 [] (by simp; omega)
  simp only [List.length_cons, List.length_nil, Nat.add_assoc, Nat.reduceAdd, List.append_nil, List.take_append_drop] at s1 s2 s3 s4 s5 s6
  rw [s6, s5, s4, s3, s2, s1]
theorem setCell_row (hg : W.heap[B]? = some (.cells cur t fr)) (v : Value) : (W.setCell ⟨B, i, none⟩ v).heap[B]? = some (.cells (cur.setIfInBounds i v) t fr) := by
  rw [setCell_eq_setRow W B i cur t fr v hg]
  exact setRow_heap W B cur _ t fr hg
/-- five cells of a row, written one behind the other. -/
theorem set5 (hg : W.heap[B]? = some (.cells cur t fr)) (h : i + 5 ≤ cur.size) (a0 a1 a2 a3 a4 : Value) :
    (((((W.setCell ⟨B, i, none⟩ a0).setCell ⟨B, i + 1, none⟩ a1).setCell ⟨B, i + 2, none⟩ a2).setCell ⟨B, i + 3, none⟩ a3).setCell ⟨B, i + 4, none⟩ a4).heap[B]? = some (.cells (cur.toList.take i ++ [a0, a1, a2, a3, a4] ++ cur.toList.drop (i + 5)).toArray t fr) := by
  rw [setCell_row (setCell_row (setCell_row (setCell_row (setCell_row hg a0) a1) a2) a3) a4, ← set5_eq h]
theorem set6 (hg : W.heap[B]? = some (.cells cur t fr)) (h : i + 6 ≤ cur.size) (a0 a1 a2 a3 a4 a5 : Value) :
    ((((((W.setCell ⟨B, i, none⟩ a0).setCell ⟨B, i + 1, none⟩ a1).setCell ⟨B, i + 2, none⟩ a2).setCell ⟨B, i + 3, none⟩ a3).setCell ⟨B, i + 4, none⟩ a4).setCell ⟨B, i + 5, none⟩ a5).heap[B]? = some (.cells (cur.toList.take i ++ [a0, a1, a2, a3, a4, a5] ++ cur.toList.drop (i + 6)).toArray t fr) := by
  rw [setCell_row (setCell_row (setCell_row (setCell_row (setCell_row (setCell_row hg a0) a1) a2) a3) a4) a5, ← set6_eq h]
theorem cell_row (hg : W.heap[B]? = some (.cells cur t fr)) (h : i < cur.size) : ∃ v, W.cell? ⟨B, i, none⟩ = some v := ⟨cur[i], by simp [World.cell?, hg, h]⟩
theorem frozen_row (hg : W.heap[B]? = some (.cells cur t (0, 0))) (j : Nat) : W.frozen? ⟨B, j, none⟩ = false := by simp [World.frozen?, hg]
end

theorem heap_setCell_ne (W : World) (a : Addr) (v : Value) {k : Nat} (h : k ≠ a.block) : (W.setCell a v).heap[k]? = W.heap[k]? := Below.heap_setCell W a v k h

theorem encEs_append (xs ys : List El) : encEs (xs ++ ys) = encEs xs ++ encEs ys := List.flatMap_append
theorem encFs_append (xs ys : List Fl) : encFs (xs ++ ys) = encFs xs ++ encFs ys := List.flatMap_append

/-- what a copy's row is while it is made: so many are done. -/
structure PartV (W : World) (B n k : Nat) (ds : List El) : Prop where
  len : ds.length = k
  row : ∃ cur, W.heap[B]? = some (.cells cur 40 (0, 0)) ∧ cur.size = n * 5 ∧ cur.toList.take (k * 5) = encEs ds

theorem PartV.step {W : World} {B n k : Nat} {ds : List El} (h : PartV W B n k ds) (hk : k < n) (v : V) (l f : Value) :
    PartV (((((W.setCell ⟨B, k * 5, none⟩ (.int .i64 v.kind)).setCell ⟨B, k * 5 + 1, none⟩ (.int .i64 v.num)).setCell ⟨B, k * 5 + 2, none⟩ (.string v.text)).setCell ⟨B, k * 5 + 3, none⟩ l).setCell ⟨B, k * 5 + 4, none⟩ f) B n (k + 1) (ds ++ [⟨v, l, f⟩]) := by
  obtain ⟨hl, cur, h1, h2, h3⟩ := h
  refine ⟨by simp [hl], _, set5 h1 (by omega) _ _ _ _ _, ?_, ?_⟩
  · simp; omega
  · rw [h3, encEs_append]
    have e : (encEs ds).length = k * 5 := by rw [encEs_length, hl]
    have e2 : (encEs ds ++ [Value.int .i64 v.kind, .int .i64 v.num, .string v.text, l, f]).length = (k + 1) * 5 := by rw [List.length_append, e]; simp; omega
    show List.take ((k + 1) * 5) (encEs ds ++ [Value.int .i64 v.kind, .int .i64 v.num, .string v.text, l, f] ++ cur.toList.drop (k * 5 + 5)) = _
    rw [← e2, List.take_left]
    rfl
theorem PartV.keep {W W' : World} {B n k : Nat} {ds : List El} (h : PartV W B n k ds) (hb : W'.heap[B]? = W.heap[B]?) : PartV W' B n k ds := by
  obtain ⟨hl, cur, h1, h2, h3⟩ := h
  exact ⟨hl, cur, hb.trans h1, h2, h3⟩
theorem PartV.done {W : World} {B n : Nat} {ds : List El} (h : PartV W B n n ds) (hn : n ≤ 1000000) {ok : Nat → Prop} (hB : ok B) : RowAt ok W 40 5 (.slice (some ⟨B, 0, none⟩) n n) ds.length (encEs ds) := by
  obtain ⟨hl, cur, h1, h2, h3⟩ := h
  subst hl
  exact ⟨⟨encEs_length ds, .inr ⟨B, _, cur, rfl, Nat.zero_le _, h1, Nat.le_refl _, by unfold maxLen; omega, h2, h3⟩⟩, hn, fun b hb => by cases hb; exact hB⟩

/-- a copy of a list, in memory of its own. -/
def CopyL (m : Nat) (w w' : World) (es : List El) (l' : Value) : Prop :=
  ∃ es' : List El, es'.map El.v = es.map El.v ∧ RowAt (fun k => w.heap.size ≤ k) w' 40 5 l' es'.length (encEs es') ∧ ∀ e ∈ es', Rep (fun k => w.heap.size ≤ k) m w' e.v e.l e.f

set_option maxHeartbeats 2000000 in
theorem twinList_any (n m : Nat) (es : List El) (l : Value) (w : World) (hrow : RowAt (fun _ => True) w 40 5 l es.length (encEs es)) (hle : ∀ e ∈ es, Lies n w e.v e.l e.f)
    (hv : ∀ e ∈ es, ∀ W, Below w.heap.size w W → Calls Tryz.prog 46 #[.agg #[.int .i64 e.v.kind, .int .i64 e.v.num, .string e.v.text, e.l, e.f]] W fun r w' => ∃ l' f', r = .returned (.agg #[.int .i64 e.v.kind, .int .i64 e.v.num, .string e.v.text, l', f']) ∧ Rep (fun k => W.heap.size ≤ k) m w' e.v l' f' ∧ Below W.heap.size W w') :
    Calls Tryz.prog 69 #[l] w fun r w' => ∃ l', r = .returned l' ∧ CopyL m w w' es l' ∧ Below w.heap.size w w' := by
  have hq : ∀ a m c W, (binOp .eql 37 (.slice a m c) (.slice none 0 0)).run Tryz.prog W = .ok (.bool a.isNone) W := fun a m c W => Lib.run_eql_slice_nil W _ _ a m c 0 0 Tryz.underlying37
  have hn := hrow.2.1
  rcases Nat.eq_zero_or_pos es.length with h0 | h0
  · obtain rfl := List.length_eq_zero_iff.1 h0
    clear hle hv
    rcases hrow.1.2 with ⟨rfl, _⟩ | ⟨g, cap, cur, rfl, _⟩
    · have q := hq none
      clear hrow
      go_enter Tryz.func69, Tryz.ntmps69
      go_wp2
      go_ret
      exact ⟨_, rfl, ⟨[], rfl, RowAt.nil, fun e he => by cases he⟩, Below.refl _ _⟩
    · have q := hq (some ⟨g, 0, none⟩)
      have hmk := make_rows Tryz.underlying37 infoV 0 (by omega) (by omega)
      rw [show ((0 : Nat) : Int) = 0 from rfl] at hmk
      clear hrow
      go_enter Tryz.func69, Tryz.ntmps69
      go_wp2
      refine wp_loop_rounds 1 ?_
      rw [rounds_succ]
      go_wp2
      go_ret
      refine ⟨_, rfl, ⟨[], rfl, ⟨⟨rfl, .inr ⟨w.heap.size, 0, _, rfl, Nat.zero_le _, heap_alloc_new w _, Nat.le_refl _, by unfold maxLen; omega, by simp [madeCells], by simp [encEs]⟩⟩, Nat.zero_le _, fun b hb => by cases hb; exact Nat.le_refl _⟩, fun e he => by cases he⟩, (Below.refl _ _).alloc (Nat.le_refl _) _⟩
  · obtain ⟨b, c, rfl, hbl, _, hc1, hc2, _⟩ := hrow.cells h0
    have hmk := make_rows Tryz.underlying37 infoV es.length (by omega) (by omega)
    have q := hq (some ⟨b, 0, none⟩)
    go_enter Tryz.func69, Tryz.ntmps69
    go_wp2
    go_loopg [4, 5, 13] es.length (fun gg _ _ i wr => ∃ (k : Nat) (ds : List El), k ≤ es.length ∧ es.length - k ≤ gg ∧ i = .int .i64 k ∧ Aside (Below w.heap.size w wr ∧ PartV wr w.heap.size es.length k ds ∧ ds.map El.v = (es.take k).map El.v ∧ ∀ e ∈ ds, Rep (fun b => w.heap.size < b) m wr e.v e.l e.f))
    case atStart =>
      refine ⟨0, [], Nat.zero_le _, by omega, rfl, (Below.refl _ _).alloc (Nat.le_refl _) _, ⟨rfl, _, heap_alloc_new w _, by simp [madeCells], by simp [encEs]⟩, rfl, fun e he => by cases he⟩
    case round =>
      obtain ⟨k, ds, hk, hgg, rfl, R⟩ := hrel
      by_cases hlt : k < es.length
      · obtain ⟨hB, hP, hd, hr⟩ := R.out
        obtain ⟨⟨xv, xl, xf⟩, hx⟩ : ∃ x, es[k]? = some x := ⟨_, List.getElem?_eq_getElem hlt⟩
        have hm : ∀ b, True → b < w.heap.size → True ∧ wr.heap[b]? = w.heap[b]? := fun b _ h => ⟨trivial, hB.block b h⟩
        obtain ⟨a0, a1, a2, a3, a4⟩ := (hrow.move hm).el hx
        have hlx : Lies n wr xv xl xf := (hle _ (List.mem_of_getElem? hx)).below hB
        simp only at a0 a1 a2 a3 a4
        have hcall := fun W (hW : Below wr.heap.size wr W) => hv _ (List.mem_of_getElem? hx) W (hB.trans (hW.mono hB.size))
        simp only at hcall
        obtain ⟨al, cl, af, cf, rfl, rfl⟩ := hlx.slices
        have zk : (k : Int) < (es.length : Int) := by omega
        clear hlx hm hv hle hrow hP hd hr hB
        go_wp2_with fail
        refine (hcall _ ((Below.refl _ _).alloc (Nat.le_refl _) _)).mono ?_
        rintro e w' ⟨l', f', rfl, hrep, hb'⟩
        obtain ⟨al', cl', af', cf', rfl, rfl⟩ := hrep.slices
        obtain ⟨hB, hP, hd, hr⟩ := R.out
        have hlt' : w.heap.size < wr.heap.size := lt_of_heap hP.row.choose_spec.1
        have hBw : Below wr.heap.size wr w' := ((Below.refl _ _).alloc (Nat.le_refl _) _).trans (hb'.mono (by simp))
        have hP' : PartV w' w.heap.size es.length k ds := hP.keep (hBw.block _ hlt')
        obtain ⟨cur, h1, h2, h3⟩ := hP'.row
        obtain ⟨o0, c0⟩ := cell_row h1 (i := k * 5) (by omega)
        obtain ⟨o1, c1⟩ := cell_row h1 (i := k * 5 + 1) (by omega)
        obtain ⟨o2, c2⟩ := cell_row h1 (i := k * 5 + 2) (by omega)
        obtain ⟨o3, c3⟩ := cell_row h1 (i := k * 5 + 3) (by omega)
        obtain ⟨o4, c4⟩ := cell_row h1 (i := k * 5 + 4) (by omega)
        have f0 := frozen_row h1
        have S := (show Aside _ from And.intro hrep hb')
        have T := (show Aside _ from And.intro hBw hP')
        clear h1 h2 h3 hP hP' hrep hb' hBw hB hd hr
        go_wp2
        go_roundg (es.length - (k + 1))
        case measure => omega
        case rel =>
          obtain ⟨hrep, hb'⟩ := S.out
          obtain ⟨hBw, hP'⟩ := T.out
          obtain ⟨hB, hP, hd, hr⟩ := R.out
          have hBB : Below w.heap.size w w' := hB.trans (hBw.mono hB.size)
          refine ⟨k + 1, ds ++ [⟨xv, _, _⟩], by omega, by omega, by go_num, ?_, hP'.step hlt xv _ _, ?_, ?_⟩
          · exact ((((hBB.setCell (Nat.le_refl _) _).setCell (Nat.le_refl _) _).setCell (Nat.le_refl _) _).setCell (Nat.le_refl _) _).setCell (Nat.le_refl _) _
          · rw [List.map_append, hd, List.take_add_one, hx]; simp
          · have hne : ∀ (b : Nat), w.heap.size < b → (((((w'.setCell ⟨w.heap.size, k * 5, none⟩ (.int .i64 xv.kind)).setCell ⟨w.heap.size, k * 5 + 1, none⟩ (.int .i64 xv.num)).setCell ⟨w.heap.size, k * 5 + 2, none⟩ (.string xv.text)).setCell ⟨w.heap.size, k * 5 + 3, none⟩ (.slice al' xv.list.length cl')).setCell ⟨w.heap.size, k * 5 + 4, none⟩ (.slice af' xv.fields.length cf')).heap[b]? = w'.heap[b]? := by
              intro b hb
              have : b ≠ w.heap.size := by omega
              rw [heap_setCell_ne _ _ _ this, heap_setCell_ne _ _ _ this, heap_setCell_ne _ _ _ this, heap_setCell_ne _ _ _ this, heap_setCell_ne _ _ _ this]
            intro e he
            rcases List.mem_append.1 he with he | he
            · exact (hr e he).move fun b hb hl => ⟨hb, (hne b hb).trans (hBw.block b hl)⟩
            · rw [List.mem_singleton.1 he]
              refine hrep.move fun b hb hl => ?_
              have : w.heap.size < b := by simp at hb; omega
              exact ⟨this, hne b this⟩
      · have zk : ¬ (k : Int) < (es.length : Int) := by omega
        clear hv hle hrow
        go_wp2
        go_ret
        obtain ⟨hB, hP, hd, hr⟩ := R.out
        have hk' : k = es.length := by omega
        subst hk'
        exact ⟨_, rfl, ⟨ds, by rw [hd, List.take_length], hP.done hn (Nat.le_refl _), fun e he => (hr e he).move fun b hb _ => ⟨by omega, rfl⟩⟩, hB⟩
end Go.Proofs.YtfpkkobclkdniaaGreatDoor
