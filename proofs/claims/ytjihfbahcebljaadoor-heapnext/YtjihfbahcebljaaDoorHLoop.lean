/-
  What the walks over the law's deeds share. No conditions beyond those stated.
-/
import Derived.Test.YtjihfbahcebljaaDoorHDo
import Derived.Test.YtjihfbahcebljaaDoorVQ
namespace Go.Proofs.YtjihfbahcebljaaDoor
open Go.RowKit

theorem pair_made {B : Nat} {w2 : World} (hz : B ≤ w2.heap.size) : Pair B (w2.alloc (.map #[] 0)) w2.heap.size 0 [] :=
  ⟨hz, fun _ => none, MapOn.made w2, fun _ => ⟨rfl, fun _ h => by cases h⟩⟩
theorem wrap24 {id : Int} (_h0 : 0 ≤ id) : IntKind.i64.wrap (id % 24) = id % 24 := by rw [IntKind.wrap_i64]; omega
theorem wrap24t {id : Int} (h0 : 0 ≤ id) : IntKind.i64.wrap (id.tmod 24) = id % 24 := by rw [Int.tmod_eq_emod_of_nonneg h0]; exact wrap24 h0
theorem same_self {a : V} {la fa lb fb : Value} {w : World} (ha : Lies 5 w a la fa) (hb : Lies 5 w a lb fb) :
    Calls Tryd.prog 14 #[.agg #[.int .i64 a.kind, .int .i64 a.num, .string a.text, la, fa], .agg #[.int .i64 a.kind, .int .i64 a.num, .string a.text, lb, fb]] w fun e w' => e = .returned (.bool true) ∧ Below w.heap.size w w' := Same_is ((good_cmpV 6).refl a) ha hb

theorem wrap_small {x : Int} (h0 : -1000000 ≤ x) (h1 : x ≤ 1000000) : IntKind.i64.wrap x = x := by rw [IntKind.wrap_i64]; omega
theorem wrap64_small {x : Int} (h0 : -1000000 ≤ x) (h1 : x ≤ 1000000) : wrap64 x = x := by unfold wrap64; omega
theorem wf_small {x : Int} (h0 : -1000000 ≤ x) (h1 : x ≤ 1000000) : (Lit.int .i64 x).wf = true := wfK (by omega) (by omega)
/-- the deeds of the first so many, by what they leave. -/
structure Lop (B M : Nat) (w wr : World) (rs : List Rec) (last : Int) (n : Nat) : Prop where
  h : HSt B wr B rs last
  p : Pair B wr M n rs
  b : Below w.heap.size w wr
theorem Lop.below {B M n : Nat} {w wr w' : World} {rs : List Rec} {last : Int} (h : Lop B M w wr rs last n) (k : Below wr.heap.size wr w') : Lop B M w w' rs last n := ⟨h.h.below k, h.p.below k, h.b.trans (k.mono h.b.size)⟩
theorem range_below {α : Type} {mk : α → Value} {w w' : World} {b r n c cnt : Nat} {g : Int → Option α} {left : Int → Bool} (h : RangeOn mk w b r n g c left cnt) (k : Below w.heap.size w w') : RangeOn mk w' b r n g c left cnt :=
  h.kept (row := none) ⟨k.os, k.tape, k.output, k.size, fun i hi _ => k.block i hi⟩ (by simp) (by simp)
end Go.Proofs.YtjihfbahcebljaaDoor
