/-
  package value's Get by its contract; what Set and Del do, as plain functions. No conditions beyond those stated.
-/
import Derived.Test.YtjihfbahcebljaaDoorVIns
namespace Go.Proofs.YtjihfbahcebljaaDoor
open Go.RowKit

def zeroV : V := ⟨0, 0, ⟨#[]⟩, [], []⟩
/-- the value of the first field of that name. -/
def getV (v : V) (name : ByteArray) : Option V := if v.kind = 5 then getF name v.fields else none
/-- the first field of that name is x. -/
def replF (name : ByteArray) (x : V) : List (ByteArray × V) → List (ByteArray × V)
  | [] => []
  | f :: fs => if cmpT f.1 name = 0 then (f.1, x) :: fs else f :: replF name x fs
/-- ahead of the first field whose name is above. -/
def insF (name : ByteArray) (x : V) : List (ByteArray × V) → List (ByteArray × V)
  | [] => [(name, x)]
  | f :: fs => if 0 < cmpT f.1 name then (name, x) :: f :: fs else f :: insF name x fs
def setG (name : ByteArray) (x : V) (fs : List (ByteArray × V)) : List (ByteArray × V) := if (getF name fs).isSome then replF name x fs else insF name x fs

theorem where_name (name : ByteArray) : ∀ fs : List (ByteArray × V), (whereI (isName name) fs = -1 ∧ getF name fs = none) ∨
    ∃ (j : Nat) (q : ByteArray) (x : V), whereI (isName name) fs = j ∧ fs[j]? = some (q, x) ∧ getF name fs = some x ∧ (∀ y, replF name y fs = fs.set j (q, y)) ∧ delF name fs = fs.take j ++ fs.drop (j + 1)
  | [] => .inl ⟨rfl, rfl⟩
  | f :: fs => by
    by_cases h : cmpT f.1 name = 0
    · right
      refine ⟨0, f.1, f.2, ?_, rfl, ?_, fun y => ?_, ?_⟩
      · simp [whereI, isName, h]
      · simp [getF, h]
      · simp [replF, h]
      · simp [delF, h]
    · have hn : isName name f = false := by unfold isName; exact decide_eq_false h
      rcases where_name name fs with ⟨h1, h2⟩ | ⟨j, q, x, h1, h2, h3, h4, h5⟩
      · left
        constructor
        · simp [whereI, hn, h1]
        · simp [getF, h, h2]
      · right
        refine ⟨j + 1, q, x, ?_, by simpa using h2, ?_, fun y => ?_, ?_⟩
        · simp only [whereI, hn, h1]
          rw [if_neg (by simp), if_neg (by omega)]
          omega
        · simp [getF, h, h3]
        · simp [replF, h, h4]
        · simp [delF, h, h5]
theorem where_above (name : ByteArray) (x : V) : ∀ fs : List (ByteArray × V), ∃ j : Nat, aboveI name fs = j ∧ j ≤ fs.length ∧ insF name x fs = fs.take j ++ (name, x) :: fs.drop j
  | [] => ⟨0, rfl, Nat.le_refl _, rfl⟩
  | f :: fs => by
    by_cases h : 0 < cmpT f.1 name
    · refine ⟨0, ?_, Nat.zero_le _, ?_⟩
      · simp [aboveI, whereI, isAbove, h]
      · simp [insF, h]
    · have hn : isAbove name f = false := by unfold isAbove; exact decide_eq_false h
      obtain ⟨j, h1, h2, h3⟩ := where_above name x fs
      refine ⟨j + 1, ?_, by simpa using h2, ?_⟩
      · have hr := whereI_range (isAbove name) fs
        unfold aboveI at h1 ⊢
        simp only [whereI, hn, List.length_cons, Bool.false_eq_true, if_false]
        by_cases h0 : whereI (isAbove name) fs < 0
        · rw [if_pos h0] at h1
          rw [if_pos h0, if_pos (by omega)]
          omega
        · rw [if_neg h0] at h1
          rw [if_neg h0, if_neg (by omega)]
          omega
      · simp [insF, h, h3]
theorem get_none_above {name : ByteArray} : ∀ {fs : List (ByteArray × V)} {f : ByteArray × V}, Rises (f :: fs) → 0 < cmpT f.1 name → getF name fs = none
  | [], _, _, _ => rfl
  | g :: gs, f, h, h0 => by
    have a1 := good_cmpT.anti f.1 name
    have a2 := good_cmpT.anti name g.1
    have := good_cmpT.lt_left (a := name) (b := f.1) (c := g.1) (by omega) (by have := h.1; omega)
    exact get_above h.2 (by omega)
/-- where names rise both ways are one. -/
theorem setG_eq (name : ByteArray) (x : V) : ∀ {fs}, Rises fs → setG name x fs = setF name x fs
  | [], _ => rfl
  | f :: fs, h => by
    have ih := setG_eq name x h.tail
    unfold setG at ih ⊢
    simp only [setF, getF]
    by_cases h0 : cmpT f.1 name = 0
    · simp [h0, replF]
    · simp only [h0, if_false]
      by_cases h1 : 0 < cmpT f.1 name
      · have := get_none_above h h1
        simp [h1, this, insF]
      · simp only [h1, if_false]
        rw [← ih]
        by_cases hs : (getF name fs).isSome = true
        · simp [hs, replF, h0]
        · simp [hs, insF, h1]

theorem row_below {w0 W : World} (hW : Below w0.heap.size w0 W) {b : Nat} {o : Obj} (h : w0.heap[b]? = some o) : W.heap[b]? = some o := (hW.block b (lt_of_heap h)).trans h
theorem heap_alloc3_0 {w : World} {o1 o2 o3 : Obj} : (((w.alloc o1).alloc o2).alloc o3).heap[w.heap.size]? = some o1 := by
  rw [Below.heap_alloc ((w.alloc o1).alloc o2) o3 w.heap.size (by simp; omega)]; exact heap_alloc2_old
theorem heap_alloc3_1 {w : World} {o1 o2 o3 : Obj} : (((w.alloc o1).alloc o2).alloc o3).heap[w.heap.size + 1]? = some o2 := by
  rw [Below.heap_alloc ((w.alloc o1).alloc o2) o3 (w.heap.size + 1) (by simp)]; exact heap_alloc2_new
theorem heap_alloc3_2 {w : World} {o1 o2 o3 : Obj} : (((w.alloc o1).alloc o2).alloc o3).heap[w.heap.size + 2]? = some o3 := by
  have := heap_alloc_new ((w.alloc o1).alloc o2) o3
  simpa using this

/-- what Get answers, where it lies. -/
def GotV (m : Nat) (w w' : World) (x : V) (l' f' : Value) : Prop := Rep (fun k => w.heap.size ≤ k) m w' x l' f' ∧ Below w.heap.size w w'

end Go.Proofs.YtjihfbahcebljaaDoor
