/-
  How deep and how great the values of ValueSizes are. No conditions beyond those stated.
-/
import Derived.Test.YtheijncppmndoaaDoorVQ
namespace Go.Proofs.YtheijncppmndoaaDoor
open Go.RowKit

theorem sumL_le {B : Int} : ∀ (l : List Int), (∀ x ∈ l, x ≤ B) → sumL l ≤ l.length * B
  | [], _ => by simp [sumL]
  | x :: xs, h => by
    have h1 := sumL_le xs fun y hy => h y (by simp [hy])
    have h2 := h x (by simp)
    simp only [sumL, List.length_cons]
    rw [show ((xs.length + 1 : Nat) : Int) * B = xs.length * B + B by rw [Int.natCast_add, Int.add_mul]; simp]
    omega
def sizeBound : Nat → Int
  | 0 => 17
  | n + 1 => 5 + 4 * sizeBound n
theorem sizeBound_pos : ∀ n, 17 ≤ sizeBound n
  | 0 => Int.le_refl _
  | n + 1 => by have := sizeBound_pos n; simp only [sizeBound]; omega
theorem nice_size : ∀ (n : Nat) (v : V), Nice n v → sizeV (n + 1) v ≤ sizeBound n
  | 0, v, ⟨_, _, _, h4, h5, h6⟩ => by
    simp only [sizeV, h5, h6, List.map_nil, sumL, sizeBound]
    repeat' split
    all_goals omega
  | n + 1, v, ⟨_, _, _, h4, h5, h6, _, h8, h9⟩ => by
    have hp := sizeBound_pos n
    rw [sizeV, sizeBound]
    split
    · omega
    · split
      · have h := sumL_le (B := sizeBound n) (v.list.map (sizeV (n + 1))) fun z hz => by
          obtain ⟨u, hu, rfl⟩ := List.mem_map.1 hz
          exact nice_size n u (h8 u hu)
        rw [List.length_map] at h
        have h2 : (v.list.length : Int) * sizeBound n ≤ 3 * sizeBound n := Int.mul_le_mul_of_nonneg_right (by omega) (by omega)
        omega
      · split
        · have h := sumL_le (B := 1 + sizeBound n) (v.fields.map fun p => (p.1.size : Int) + sizeV (n + 1) p.2) fun z hz => by
            obtain ⟨u, hu, rfl⟩ := List.mem_map.1 hz
            have := nice_size n u.2 (h9 u hu).2
            have := (h9 u hu).1
            show (u.1.size : Int) + sizeV (n + 1) u.2 ≤ _
            omega
          rw [List.length_map] at h
          have h2 : (v.fields.length : Int) * (1 + sizeBound n) ≤ 4 * (1 + sizeBound n) := Int.mul_le_mul_of_nonneg_right (by omega) (by omega)
          omega
        · omega
theorem nice_size3 {v : V} (h : Nice 3 v) : 1 ≤ sizeV 4 v ∧ sizeV 4 v ≤ 2000 := by
  have h1 : sizeV 4 v ≤ sizeBound 3 := nice_size 3 v h
  have h2 := sizeV_pos 4 v
  have h3 : sizeBound 3 = 1193 := by decide
  omega

/-- a list of two. -/
theorem lies_two {n : Nat} {W : World} {b : Nat} {x y : V} {lx fx ly fy : Value} {t1 : ByteArray} {m : Int}
    (h : W.heap[b]? = some (.cells #[.int .i64 x.kind, .int .i64 x.num, .string x.text, lx, fx, .int .i64 y.kind, .int .i64 y.num, .string y.text, ly, fy] 28 (0, 0))) (hx : Lies n W x lx fx) (hy : Lies n W y ly fy) :
    Lies (n + 1) W ⟨4, m, t1, [x, y], []⟩ (.slice (some ⟨b, 0, none⟩) 2 2) (.slice none 0 0) := by
  refine ⟨⟨[⟨x, lx, fx⟩, ⟨y, ly, fy⟩], rfl, ⟨⟨rfl, .inr ⟨b, 2, _, rfl, Nat.zero_le _, h, Nat.le_refl _, by decide, rfl, rfl⟩⟩, by simp, fun _ _ => trivial⟩, ?_⟩, ⟨[], rfl, RowAt.nil, fun e he => (by cases he)⟩⟩
  intro e he
  rcases List.mem_cons.1 he with rfl | he
  · exact hx
  · rcases List.mem_cons.1 he with rfl | he
    · exact hy
    · cases he
/-- an object of one. -/
theorem lies_one {n : Nat} {W : World} {b : Nat} {x : V} {nm : ByteArray} {lx fx : Value} {t1 : ByteArray} {m : Int}
    (h : W.heap[b]? = some (.cells #[.string nm, .int .i64 x.kind, .int .i64 x.num, .string x.text, lx, fx] 35 (0, 0))) (hx : Lies n W x lx fx) :
    Lies (n + 1) W ⟨5, m, t1, [], [(nm, x)]⟩ (.slice none 0 0) (.slice (some ⟨b, 0, none⟩) 1 1) := by
  refine ⟨⟨[], rfl, RowAt.nil, fun e he => (by cases he)⟩, ⟨[⟨nm, x, lx, fx⟩], rfl, ⟨⟨rfl, .inr ⟨b, 1, _, rfl, Nat.zero_le _, h, Nat.le_refl _, by decide, rfl, rfl⟩⟩, by simp, fun _ _ => trivial⟩, ?_⟩⟩
  intro e he
  rcases List.mem_cons.1 he with rfl | he
  · exact hx
  · cases he
theorem lies_none {W : World} {k m : Int} {t : ByteArray} : Lies 0 W ⟨k, m, t, [], []⟩ (.slice none 0 0) (.slice none 0 0) := ⟨rfl, rfl, rfl, rfl⟩

theorem Depth_is {n : Nat} {a : V} {la fa : Value} {w : World} {r : Int} (hn : n ≤ 1000) (hr : depthV (n + 1) a = r) (ha : Lies n w a la fa) :
    Calls Tryd.prog 14 #[.agg #[.int .i64 a.kind, .int .i64 a.num, .string a.text, la, fa]] w fun e w' => e = .returned (.int .i64 r) ∧ Below w.heap.size w w' := by
  rw [← hr]; exact Depth_any n hn a la fa w ha
theorem Size_is {n : Nat} {a : V} {la fa : Value} {w : World} {r : Int} (hr : sizeV (n + 1) a = r) (hl : r ≤ 1000000000000) (ha : Lies n w a la fa) :
    Calls Tryd.prog 15 #[.agg #[.int .i64 a.kind, .int .i64 a.num, .string a.text, la, fa]] w fun e w' => e = .returned (.int .i64 r) ∧ Below w.heap.size w w' := by
  subst hr; exact Size_any n a la fa w ha hl
theorem heap_more {w : World} {b : Nat} {o o' : Obj} (h : w.heap[b]? = some o) : (w.alloc o').heap[b]? = some o := by
  rw [Below.heap_alloc w o' b (lt_of_heap h)]; exact h
theorem depth_two {n : Nat} {x y : V} {t : ByteArray} {m dx dy : Int} (h1 : depthV n x = dx) (h2 : depthV n y = dy) (p : 1 ≤ dx) : depthV (n + 1) ⟨4, m, t, [x, y], []⟩ = 1 + max dx dy := by
  rw [depthV, if_pos rfl]
  simp only [List.map_cons, List.map_nil, maxI, h1, h2]
  omega
theorem size_two {n : Nat} {x y : V} {t : ByteArray} {m dx dy : Int} (h1 : sizeV n x = dx) (h2 : sizeV n y = dy) : sizeV (n + 1) ⟨4, m, t, [x, y], []⟩ = 1 + dx + dy := by
  rw [sizeV, if_neg (by simp), if_pos rfl]
  simp only [List.map_cons, List.map_nil, sumL, h1, h2]
  omega
theorem depth_one {n : Nat} {x : V} {t nm : ByteArray} {m dx : Int} (h1 : depthV n x = dx) (p : 1 ≤ dx) : depthV (n + 1) ⟨5, m, t, [], [(nm, x)]⟩ = 1 + dx := by
  rw [depthV, if_neg (by simp), if_pos rfl]
  simp only [List.map_cons, List.map_nil, maxI, h1]
  omega
theorem size_one {n : Nat} {x : V} {t nm : ByteArray} {m dx : Int} (h1 : sizeV n x = dx) (h2 : nm.size = 2) : sizeV (n + 1) ⟨5, m, t, [], [(nm, x)]⟩ = 3 + dx := by
  rw [sizeV, if_neg (by simp), if_neg (by simp), if_pos rfl]
  simp only [List.map_cons, List.map_nil, sumL, h1, h2]
  omega
theorem depth_text {n : Nat} {t : ByteArray} {m : Int} : depthV (n + 1) ⟨3, m, t, [], []⟩ = 1 := by
  rw [depthV, if_neg (by simp), if_neg (by simp)]; rfl
theorem size_text {n : Nat} {t : ByteArray} {m : Int} (h : t.size = 3) : sizeV (n + 1) ⟨3, m, t, [], []⟩ = 4 := by
  rw [sizeV, if_pos rfl, h]; rfl
theorem size_zero {n : Nat} {t : ByteArray} {m : Int} : sizeV (n + 1) ⟨0, m, t, [], []⟩ = 1 := by
  rw [sizeV, if_neg (by simp), if_neg (by simp), if_neg (by simp)]; rfl
end Go.Proofs.YtheijncppmndoaaDoor
