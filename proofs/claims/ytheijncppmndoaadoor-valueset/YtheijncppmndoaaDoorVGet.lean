/-
  package value's Get by its contract; what Set and Del do, as plain functions. No conditions beyond those stated.
-/
import Derived.Test.YtheijncppmndoaaDoorVIns
namespace Go.Proofs.YtheijncppmndoaaDoor
open Go.RowKit

def zeroV : V := ⟨0, 0, ⟨#[]⟩, [], []⟩
/-- the value of the first field of that name. -/
def getV (v : V) (name : ByteArray) : Option V := if v.kind = 5 then getF name v.fields else none
/-- the first field of that name is x. -/
def replF (name : ByteArray) (x : V) : List (ByteArray × V) → List (ByteArray × V)
  | [] => []
  | f :: fs => if cmpT f.1 name = 0 then (f.1, x) :: fs else f :: replF name x fs
/-- ahead of the first field whose name is above. -/
def insF (name : ByteArray) (x : V) : List (ByteArray × V) → List (ByteArray × V)
  | [] => [(name, x)]
  | f :: fs => if 0 < cmpT f.1 name then (name, x) :: f :: fs else f :: insF name x fs
def setG (name : ByteArray) (x : V) (fs : List (ByteArray × V)) : List (ByteArray × V) := if (getF name fs).isSome then replF name x fs else insF name x fs

theorem where_name (name : ByteArray) : ∀ fs : List (ByteArray × V), (whereI (isName name) fs = -1 ∧ getF name fs = none) ∨
    ∃ (j : Nat) (q : ByteArray) (x : V), whereI (isName name) fs = j ∧ fs[j]? = some (q, x) ∧ getF name fs = some x ∧ (∀ y, replF name y fs = fs.set j (q, y)) ∧ delF name fs = fs.take j ++ fs.drop (j + 1)
  | [] => .inl ⟨rfl, rfl⟩
  | f :: fs => by
    by_cases h : cmpT f.1 name = 0
    · right
      refine ⟨0, f.1, f.2, ?_, rfl, ?_, fun y => ?_, ?_⟩
      · simp [whereI, isName, h]
      · simp [getF, h]
      · simp [replF, h]
      · simp [delF, h]
    · have hn : isName name f = false := by unfold isName; exact decide_eq_false h
      rcases where_name name fs with ⟨h1, h2⟩ | ⟨j, q, x, h1, h2, h3, h4, h5⟩
      · left
        constructor
        · simp [whereI, hn, h1]
        · simp [getF, h, h2]
      · right
        refine ⟨j + 1, q, x, ?_, by simpa using h2, ?_, fun y => ?_, ?_⟩
        · simp only [whereI, hn, h1]
          rw [if_neg (by simp), if_neg (by omega)]
          omega
        · simp [getF, h, h3]
        · simp [replF, h, h4]
        · simp [delF, h, h5]
theorem where_above (name : ByteArray) (x : V) : ∀ fs : List (ByteArray × V), ∃ j : Nat, aboveI name fs = j ∧ j ≤ fs.length ∧ insF name x fs = fs.take j ++ (name, x) :: fs.drop j
  | [] => ⟨0, rfl, Nat.le_refl _, rfl⟩
  | f :: fs => by
    by_cases h : 0 < cmpT f.1 name
    · refine ⟨0, ?_, Nat.zero_le _, ?_⟩
      · simp [aboveI, whereI, isAbove, h]
      · simp [insF, h]
    · have hn : isAbove name f = false := by unfold isAbove; exact decide_eq_false h
      obtain ⟨j, h1, h2, h3⟩ := where_above name x fs
      refine ⟨j + 1, ?_, by simpa using h2, ?_⟩
      · have hr := whereI_range (isAbove name) fs
        unfold aboveI at h1 ⊢
        simp only [whereI, hn, List.length_cons, Bool.false_eq_true, if_false]
        by_cases h0 : whereI (isAbove name) fs < 0
        · rw [if_pos h0] at h1
          rw [if_pos h0, if_pos (by omega)]
          omega
        · rw [if_neg h0] at h1
          rw [if_neg h0, if_neg (by omega)]
          omega
      · simp [insF, h, h3]
theorem get_none_above {name : ByteArray} : ∀ {fs : List (ByteArray × V)} {f : ByteArray × V}, Rises (f :: fs) → 0 < cmpT f.1 name → getF name fs = none
  | [], _, _, _ => rfl
  | g :: gs, f, h, h0 => by
    have a1 := good_cmpT.anti f.1 name
    have a2 := good_cmpT.anti name g.1
    have := good_cmpT.lt_left (a := name) (b := f.1) (c := g.1) (by omega) (by have := h.1; omega)
    exact get_above h.2 (by omega)
/-- where names rise both ways are one. -/
theorem setG_eq (name : ByteArray) (x : V) : ∀ {fs}, Rises fs → setG name x fs = setF name x fs
  | [], _ => rfl
  | f :: fs, h => by
    have ih := setG_eq name x h.tail
    unfold setG at ih ⊢
    simp only [setF, getF]
    by_cases h0 : cmpT f.1 name = 0
    · simp [h0, replF]
    · simp only [h0, if_false]
      by_cases h1 : 0 < cmpT f.1 name
      · have := get_none_above h h1
        simp [h1, this, insF]
      · simp only [h1, if_false]
        rw [← ih]
        by_cases hs : (getF name fs).isSome = true
        · simp [hs, replF, h0]
        · simp [hs, insF, h1]

theorem row_below {w0 W : World} (hW : Below w0.heap.size w0 W) {b : Nat} {o : Obj} (h : w0.heap[b]? = some o) : W.heap[b]? = some o := (hW.block b (lt_of_heap h)).trans h
theorem heap_alloc3_0 {w : World} {o1 o2 o3 : Obj} : (((w.alloc o1).alloc o2).alloc o3).heap[w.heap.size]? = some o1 := by
  rw [Below.heap_alloc ((w.alloc o1).alloc o2) o3 w.heap.size (by simp; omega)]; exact heap_alloc2_old
theorem heap_alloc3_1 {w : World} {o1 o2 o3 : Obj} : (((w.alloc o1).alloc o2).alloc o3).heap[w.heap.size + 1]? = some o2 := by
  rw [Below.heap_alloc ((w.alloc o1).alloc o2) o3 (w.heap.size + 1) (by simp)]; exact heap_alloc2_new
theorem heap_alloc3_2 {w : World} {o1 o2 o3 : Obj} : (((w.alloc o1).alloc o2).alloc o3).heap[w.heap.size + 2]? = some o3 := by
  have := heap_alloc_new ((w.alloc o1).alloc o2) o3
  simpa using this

/-- what Get answers, where it lies. -/
def GotV (m : Nat) (w w' : World) (x : V) (l' f' : Value) : Prop := Rep (fun k => w.heap.size ≤ k) m w' x l' f' ∧ Below w.heap.size w w'

set_option maxHeartbeats 1000000 in
theorem Get_any (n : Nat) (v : V) (l f : Value) (name : ByteArray) (w : World) (h : Lies (n + 1) w v l f) :
    Calls Tryd.prog 18 #[.agg #[.int .i64 v.kind, .int .i64 v.num, .string v.text, l, f], .string name] w fun r w' => ∃ l' f', r = .returned (.tuple #[.agg #[.int .i64 ((getV v name).getD zeroV).kind, .int .i64 ((getV v name).getD zeroV).num, .string ((getV v name).getD zeroV).text, l', f'], .bool (getV v name).isSome]) ∧ GotV (n + 1) w w' ((getV v name).getD zeroV) l' f' := by
  have hB : ∀ (o1 o2 : Obj), Below w.heap.size w ((w.alloc o1).alloc o2) := fun o1 o2 => ((Below.refl _ _).alloc (Nat.le_refl _) _).alloc (by simp) _
  have hp := fun W (hW : Below w.heap.size w W) => place_any n v l f name W (h.below hW)
  obtain ⟨a1, c1, a3, c3, rfl, rfl⟩ := h.slices
  have hcase : ((if v.kind = 5 then whereI (isName name) v.fields else -1) = -1 ∧ getV v name = none) ∨ ∃ (j : Nat) (q : ByteArray) (x : V), (if v.kind = 5 then whereI (isName name) v.fields else -1) = (j : Int) ∧ v.fields[j]? = some (q, x) ∧ getV v name = some x := by
    unfold getV
    by_cases hk : v.kind = 5
    · simp only [hk, if_true]
      rcases where_name name v.fields with ⟨h1, h2⟩ | ⟨j, q, x, h1, h2, h3, _, _⟩
      · exact .inl ⟨h1, h2⟩
      · exact .inr ⟨j, q, x, h1, h2, h3⟩
    · simp only [hk, if_false]
      exact .inl ⟨trivial, trivial⟩
  rcases hcase with ⟨h1, h2⟩ | ⟨j, q, x, h1, h2, h3⟩
  · rw [h1] at hp
    rw [h2]
    clear h1 h2 h
    go_enter Tryd.func18, Tryd.ntmps18
    go_wp2_with fail
    refine (hp _ (hB _ _)).mono ?_
    rintro e w1 ⟨rfl, hb1⟩
    have q1 := (hb1.block (w.heap.size + 1) (by simp)).trans heap_alloc2_new
    obtain ⟨o0, o1, o2, o3, o4, of⟩ := row5 q1
    have hB1 : Below w.heap.size w w1 := (hB _ _).trans (hb1.mono (hB _ _).size)
    clear q1 hb1
    go_wp2
    refine bodyPost_ret (v := .tuple #[.agg #[.int .i64 0, .int .i64 0, .string ⟨#[]⟩, .slice none 0 0, .slice none 0 0], .bool false]) (by simp [results, Tryd.results18, go_sem, o0, o1, o2, o3, o4]) rfl ⟨_, _, rfl, ?_, ?_⟩
    · exact Rep.le (n := 0) ⟨rfl, rfl, rfl, rfl⟩ (Nat.zero_le _)
    · exact (((((hB1.setCell (Nat.le_succ _) _).setCell (Nat.le_succ _) _).setCell (Nat.le_succ _) _).setCell (Nat.le_succ _) _).setCell (Nat.le_succ _) _)
  · rw [h1] at hp
    rw [h3]
    obtain ⟨-, ⟨fs, f1, f2, f3⟩⟩ := h
    have hfx : ∃ xl xf, fs[j]? = some ⟨q, x, xl, xf⟩ := by
      rw [← f1, List.getElem?_map] at h2
      obtain ⟨⟨q', x', xl, xf⟩, e1, e2⟩ := Option.map_eq_some_iff.1 h2
      simp only [Fl.pair, Prod.mk.injEq] at e2
      obtain ⟨rfl, rfl⟩ := e2
      exact ⟨xl, xf, e1⟩
    obtain ⟨xl, xf, hx⟩ := hfx
    have hj : j < fs.length := (List.getElem?_eq_some_iff.1 hx).1
    have hfl : fs.length = v.fields.length := by rw [← f1, List.length_map]
    rw [hfl] at f2 hj
    obtain ⟨b, c', e1, hbl, _, hc1, hc2, _⟩ := f2.cells (by omega)
    simp only [Value.slice.injEq, true_and] at e1
    obtain ⟨rfl, rfl⟩ := e1
    have hlx := f3 _ (List.mem_of_getElem? hx)
    simp only at hlx
    have hcell : ∀ W, Below w.heap.size w W → _ := fun W hW => (f2.move (fun b _ hl => ⟨trivial, hW.block b hl⟩) : RowAt (fun _ => True) W _ _ _ _ _).fl hx
    have hnl : v.fields.length ≤ 1000000 := by rw [← hfl]; exact hfl ▸ f2.2.1
    obtain ⟨al, cl, af, cf, rfl, rfl⟩ := Rep.slices hlx
    have hcall := fun W (hW : Below w.heap.size w W) => twinValue_any n x _ _ W (Lies.below hW hlx)
    have zj : (j : Int) < (v.fields.length : Int) := by omega
    have zj0 : ¬ (j : Int) < 0 := by omega
    clear h1 h2 h3 hlx f2 f3
    go_enter Tryd.func18, Tryd.ntmps18
    go_wp2_with fail
    refine (hp _ (hB _ _)).mono ?_
    rintro e w1 ⟨rfl, hb1⟩
    have q1 := (hb1.block (w.heap.size + 1) (by simp)).trans heap_alloc2_new
    have p1 := (hb1.block w.heap.size (by simp; omega)).trans heap_alloc2_old
    obtain ⟨k0, k1, k2, k3, k4, kf⟩ := row5 p1
    have hB1 : Below w.heap.size w w1 := (hB _ _).trans (hb1.mono (hB _ _).size)
    obtain ⟨c0, c1, c2, c3, c4, c5⟩ := hcell w1 hB1
    have S := (show Hid _ from q1)
    clear q1 p1 hb1
    go_wp2_with fail
    refine (hcall _ hB1).mono ?_
    rintro e w2 ⟨l', f', rfl, hcp, hb2⟩
    have hrep := hcp.rep
    obtain ⟨al', cl', af', cf', rfl, rfl⟩ := hrep.slices
    have q2 := row_below hb2 S.out
    obtain ⟨o0, o1, o2, o3, o4, of⟩ := row5 q2
    have T := (show Hid _ from And.intro hrep hb2)
    clear hcp hrep hb2 q2
    go_wp2
    refine bodyPost_ret (v := .tuple #[.agg #[.int .i64 x.kind, .int .i64 x.num, .string x.text, .slice al' x.list.length cl', .slice af' x.fields.length cf'], .bool true]) (by simp [results, Tryd.results18, go_sem, o0, o1, o2, o3, o4]) rfl ⟨_, _, rfl, ?_, ?_⟩
    · obtain ⟨hrep, hb2⟩ := T.out
      refine hrep.move fun b hb hl => ?_
      have hl1 := lt_of_heap S.out
      have h2 : b ≠ w.heap.size + 1 := by omega
      have hz := hB1.size
      exact ⟨by omega, by rw [heap_setCell_ne _ _ _ h2, heap_setCell_ne _ _ _ h2, heap_setCell_ne _ _ _ h2, heap_setCell_ne _ _ _ h2, heap_setCell_ne _ _ _ h2]⟩
    · have hB2 := hB1.trans (T.out.2.mono hB1.size)
      exact (((((hB2.setCell (Nat.le_succ _) _).setCell (Nat.le_succ _) _).setCell (Nat.le_succ _) _).setCell (Nat.le_succ _) _).setCell (Nat.le_succ _) _)
end Go.Proofs.YtheijncppmndoaaDoor
