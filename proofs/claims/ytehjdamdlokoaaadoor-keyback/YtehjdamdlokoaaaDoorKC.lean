/-
  The program's reader of keys: what is kept. Conditions: as stated.
-/
import Derived.Test.YtehjdamdlokoaaaDoorKR4
namespace Go.Proofs.YtehjdamdlokoaaaDoor
open Go.RowKit

theorem KeptB.setc {b c o : Nat} {v : Value} {w w1 : World} (h : KeptB b w w1) (hc : w.heap.size ≤ c) : KeptB b w (w1.setCell ⟨c, o, none⟩ v) :=
  ⟨h.os, h.tape, h.output, by simpa [World.setCell] using h.size, fun k hk hb => (Below.heap_setCell _ _ _ _ (by simp; omega)).trans (h.block k hk hb)⟩
theorem RdK.setc {w0 w1 : World} {b c o : Nat} {l : List UInt8} {v : Value} (h : RdK w0 b l w1) (hc : c ≠ b) (h0 : w0.heap.size ≤ c) : RdK w0 b l (w1.setCell ⟨c, o, none⟩ v) := by
  refine ⟨h.below.trans ((KeptB.set (b := c) w1).below h0 h.below.size), h.le, ?_, h.len⟩
  obtain ⟨s, e, hr⟩ := h.rd
  exact ⟨s, e, (Below.heap_setCell _ _ _ _ (by simp; omega)).trans hr⟩
theorem Rep.setc {ok : Nat → Prop} {n : Nat} {w1 : World} {x : V} {l f : Value} (h : Rep ok n w1 x l f) {c o : Nat} {v : Value} (hc : ¬ ok c) : Rep ok n (w1.setCell ⟨c, o, none⟩ v) x l f :=
  h.move fun k hk _ => ⟨hk, Below.heap_setCell _ _ _ _ (fun e => hc (by have e' : k = c := e; rw [← e']; exact hk))⟩
theorem KeptB.al {b : Nat} {w w1 : World} {o : Obj} (h : KeptB b w w1) : KeptB b w (w1.alloc o) := h.trans (KeptB.of_below ((Below.refl _ _).alloc (Nat.le_refl _) _))
theorem RdK.al {w0 w1 : World} {b : Nat} {l : List UInt8} {o : Obj} (h : RdK w0 b l w1) : RdK w0 b l (w1.alloc o) := h.same ((Below.refl _ _).alloc (Nat.le_refl _) _)
theorem Rep.al {ok : Nat → Prop} {n : Nat} {w1 : World} {x : V} {l f : Value} {o : Obj} (h : Rep ok n w1 x l f) : Rep ok n (w1.alloc o) x l f := h.below ((Below.refl _ _).alloc (Nat.le_refl _) _)
theorem KeptB.mem {b : Nat} {w w' : World} (h : KeptB b w w') {c : Nat} {o : Obj} (hc : w.heap[c]? = some o) (hb : c ≠ b) : w'.heap[c]? = some o := (h.block c (lt_of_heap hc) hb).trans hc
theorem take_not1 {w0 w : World} {b : Nat} {l : List UInt8} (R : RdK w0 b l w) (h : ¬ l.head? = some 1) :
    Calls Tryd.prog 48 #[.pointer (some ⟨b, 0, none⟩), .int .u8 1] w fun e w' => e = .returned (.bool false) ∧ w' = w := by
  cases l with
  | nil => exact take_nil R 1
  | cons c r =>
    refine take_no R 1 fun e => h ?_
    have : c = 1 := UInt8.toNat_inj.1 (show c.toNat = 1 by omega)
    simp [this]

/-- where a field that is being read stands. -/
structure FdK (w0 w : World) (b : Nat) (r : List UInt8) (w1 : World) : Prop where
  rd : RdK w0 b r w1
  kept : KeptB b w w1
  lt : b < w.heap.size
  row : w1.heap[w.heap.size]? = some (.cells #[.string ⟨#[]⟩, .int .i64 0, .int .i64 0, .string ⟨#[]⟩, .slice none 0 0, .slice none 0 0] 50 (0, 0))
theorem FdK.more {w0 w w1 w2 : World} {b : Nat} {r r2 : List UInt8} (h : FdK w0 w b r w1) (K : KeptB b w1 w2) (R : RdK w0 b r2 w2) : FdK w0 w b r2 w2 := by
  have h1 := h.lt
  exact ⟨R, h.kept.trans K, h.lt, K.mem h.row (by omega)⟩
theorem FdK.begin {w0 w : World} {b : Nat} {l : List UInt8} (R : RdK w0 b l w) : FdK w0 w b l (w.alloc (.cells #[.string ⟨#[]⟩, .int .i64 0, .int .i64 0, .string ⟨#[]⟩, .slice none 0 0, .slice none 0 0] 50)) :=
  ⟨R.al, (KeptB.refl _ _).al, R.lt, heap_alloc_new w _⟩

/-- where a value that is being read stands. -/
structure VlK (w0 w : World) (b : Nat) (k : Int) (r : List UInt8) (w1 : World) (B : Nat) : Prop where
  rd : RdK w0 b r w1
  kept : KeptB b w w1
  lt : b < w.heap.size
  row : w1.heap[w.heap.size]? = some (.cells #[.int .i64 0, .int .i64 0, .string ⟨#[]⟩, .slice none 0 0, .slice none 0 0] 28 (0, 0))
  own : w1.heap[B]? = some (.cells #[.int .i64 k, .int .i64 0, .string ⟨#[]⟩, .slice none 0 0, .slice none 0 0] 28 (0, 0))
  new : w.heap.size < B
theorem VlK.more {w0 w w1 w2 : World} {b B : Nat} {k : Int} {r r2 : List UInt8} (h : VlK w0 w b k r w1 B) (K : KeptB b w1 w2) (R : RdK w0 b r2 w2) : VlK w0 w b k r2 w2 B := by
  have h1 := h.lt
  have h2 := h.new
  exact ⟨R, h.kept.trans K, h.lt, K.mem h.row (by omega), K.mem h.own (by omega), h.new⟩
theorem VlK.begin {w0 w w1 : World} {b : Nat} {r : List UInt8} (lt : b < w.heap.size) (K : KeptB b (w.alloc (.cells #[.int .i64 0, .int .i64 0, .string ⟨#[]⟩, .slice none 0 0, .slice none 0 0] 28)) w1) (R : RdK w0 b r w1) (k : Int) : VlK w0 w b k r (w1.alloc (.cells #[.int .i64 k, .int .i64 0, .string ⟨#[]⟩, .slice none 0 0, .slice none 0 0] 28)) w1.heap.size := by
  have hBa : Below w.heap.size w (w.alloc (.cells #[.int .i64 0, .int .i64 0, .string ⟨#[]⟩, .slice none 0 0, .slice none 0 0] 28)) := (Below.refl _ _).alloc (Nat.le_refl _) _
  have r1 := K.mem (heap_alloc_new w _) (by omega)
  have hA : Below w1.heap.size w1 (w1.alloc (.cells #[.int .i64 k, .int .i64 0, .string ⟨#[]⟩, .slice none 0 0, .slice none 0 0] 28)) := (Below.refl _ _).alloc (Nat.le_refl _) _
  exact ⟨R.same hA, ((KeptB.of_below hBa).trans K).trans (KeptB.of_below hA), lt, (hA.block _ (lt_of_heap r1)).trans r1, heap_alloc_new w1 _, lt_of_heap r1⟩
theorem rep_bare {ok : Nat → Prop} {W : World} (k m : Int) (t : ByteArray) : ∀ n, Rep ok n W ⟨k, m, t, [], []⟩ (.slice none 0 0) (.slice none 0 0)
  | 0 => ⟨rfl, rfl, rfl, rfl⟩
  | _ + 1 => ⟨⟨[], rfl, RowAt.nil, fun e he => (by cases he)⟩, ⟨[], rfl, RowAt.nil, fun e he => (by cases he)⟩⟩
/-- where a value stands when all of it is read, or it is none. -/
structure VeK (w : World) (b : Nat) (k : Int) (w2 : World) (B : Nat) : Prop where
  kept : KeptB b w w2
  row : w2.heap[w.heap.size]? = some (.cells #[.int .i64 0, .int .i64 0, .string ⟨#[]⟩, .slice none 0 0, .slice none 0 0] 28 (0, 0))
  own : w2.heap[B]? = some (.cells #[.int .i64 k, .int .i64 0, .string ⟨#[]⟩, .slice none 0 0, .slice none 0 0] 28 (0, 0))
theorem VlK.over {w0 w w1 w2 : World} {b B : Nat} {k : Int} {r : List UInt8} (h : VlK w0 w b k r w1 B) (K : KeptB b w1 w2) : VeK w b k w2 B := by
  have h1 := h.lt
  have h2 := h.new
  exact ⟨h.kept.trans K, K.mem h.row (by omega), K.mem h.own (by omega)⟩
end Go.Proofs.YtehjdamdlokoaaaDoor
