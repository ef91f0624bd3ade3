/-
  The program's printing of JSON: builders, commas. Conditions: as stated.
-/
import Derived.Test.YtdcaohnaiepllaaGreatDoorJR2
import Derived.Test.YtdcaohnaiepllaaGreatDoorTQf
namespace Go.Proofs.YtdcaohnaiepllaaGreatDoor
open Go.RowKit Go.Extern.Stop Go.Stop Go.Extern

/-- a builder that holds bytes, made behind w0. -/
structure Wr (w0 : World) (b : Nat) (l : List UInt8) (w : World) : Prop where
  env : JEnv w0
  below : Below w0.heap.size w0 w
  le : w0.heap.size ≤ b
  bld : Bld b l w
theorem Wr.now {w0 w : World} {b : Nat} {l : List UInt8} (h : Wr w0 b l w) : JEnv w := h.env.below h.below
theorem Wr.same {w0 w w' : World} {b : Nat} {l : List UInt8} (h : Wr w0 b l w) (hb : Below w.heap.size w w') : Wr w0 b l w' :=
  ⟨h.env, h.below.trans (hb.mono h.below.size), h.le, h.bld.below hb⟩
/-- what writing leaves as it was. -/
structure OK5 (b : Nat) (w w' : World) : Prop where
  kept : Lib.OthersKept 5 (some b) w w'
theorem OK5.refl (b : Nat) (w : World) : OK5 b w w := ⟨Lib.OthersKept.refl _ _ _⟩
theorem OK5.trans {b : Nat} {x y z : World} (h : OK5 b x y) (k : OK5 b y z) : OK5 b x z := ⟨h.kept.trans k.kept⟩
theorem OK5.of_below {b : Nat} {w w' : World} (h : Below w.heap.size w w') : OK5 b w w' := ⟨fun k _ hk _ _ => (h.block k (lt_of_heap hk)).trans hk⟩
theorem OK5.row {b k T : Nat} {w w' : World} {cs : Array Value} (h : OK5 b w w') (hk : w.heap[k]? = some (.cells cs T (0, 0))) (hb : k ≠ b) (hT : T ≠ 5) : w'.heap[k]? = some (.cells cs T (0, 0)) :=
  h.kept k _ hk (fun e => hb (Option.some.inj e)) (fun c fz e => by cases e; exact hT rfl)

theorem put_byte {w0 w : World} {b : Nat} {l : List UInt8} (h : Wr w0 b l w) (x : UInt8) (hl : l.length + 1 ≤ 1000000000) :
    Calls Tryz.prog 80 #[.pointer (some ⟨b, 0, none⟩), .int .u8 (x.toNat : Int)] w fun e w' => e = .returned .nilIface ∧ Wr w0 b (l ++ [x]) w' ∧ OK5 b w w' := by
  refine (Tryz.Builder_WriteByte_k b b _ _ w h.bld (by rw [bytes_length]; omega) (Nat.le_of_lt h.bld.lt)).mono ?_
  rintro e w' ⟨rfl, h1, h2, h3⟩
  refine ⟨rfl, ⟨h.env, h.below.trans (h2.mono h.le), h.le, .inr ?_⟩, ⟨h3⟩⟩
  have e : Lib.byteCells (l ++ [x]) = Lib.byteCells l ++ [.int .u8 (x.toNat : Int)] := by simp [Lib.byteCells]
  rw [e]; exact h1
theorem put_string {w0 w : World} {b : Nat} {l : List UInt8} (h : Wr w0 b l w) (s : ByteArray) (m : List UInt8) (hs : s.data.toList = m) (hl : l.length + m.length ≤ 1000000000) :
    Calls Tryz.prog 53 #[.pointer (some ⟨b, 0, none⟩), .string s] w fun e w' => e = .returned (.tuple #[.int .i64 s.size, .nilIface]) ∧ Wr w0 b (l ++ m) w' ∧ OK5 b w w' := by
  refine (Tryz.Builder_WriteString_k b b _ _ w h.bld (by rw [bytes_length, size_list hs]; omega) (Nat.le_of_lt h.bld.lt)).mono ?_
  rintro e w' ⟨rfl, h1, h2, h3⟩
  refine ⟨rfl, ⟨h.env, h.below.trans (h2.mono h.le), h.le, .inr ?_⟩, ⟨h3⟩⟩
  have e : Lib.byteCells (l ++ m) = Lib.byteCells l ++ Lib.strCells s := by subst hs; simp [Lib.byteCells, Lib.strCells]
  rw [e]; exact h1

def cm (i : Nat) : List UInt8 := if i = 0 then [] else [44]
theorem comma_any {w0 w : World} {b : Nat} {l : List UInt8} (h : Wr w0 b l w) (i : Nat) (hi : i ≤ 1000000) (hl : l.length + 1 ≤ 1000000000) :
    Calls Tryz.prog 82 #[.pointer (some ⟨b, 0, none⟩), .int .i64 (i : Int)] w fun e w' => e = .returned (.tuple #[]) ∧ Wr w0 b (l ++ cm i) w' ∧ OK5 b w w' := by
  by_cases h0 : i = 0
  · subst h0
    have HW := (show Hid _ from h)
    clear h
    go_enter Tryz.func82, Tryz.ntmps82
    go_wp2_with fail
    refine bodyPost_end (v := .tuple #[]) (by simp [results, Tryz.results82, go_sem]) rfl ⟨rfl, ?_, OK5.refl _ _⟩
    show Wr w0 b (l ++ []) _
    rw [List.append_nil]
    exact HW.out
  · have z : (0 : Int) < (i : Int) := by omega
    have hp := put_byte h 44 hl
    have hcm : cm i = [44] := if_neg h0
    rw [hcm]
    clear h hcm
    go_enter Tryz.func82, Tryz.ntmps82
    go_wp2_with fail
    refine hp.mono ?_
    rintro e w1 ⟨rfl, h1, h2⟩
    go_wp2_with fail
    exact bodyPost_end (v := .tuple #[]) (by simp [results, Tryz.results82, go_sem]) rfl ⟨rfl, h1, h2⟩

theorem sepBy_snoc : ∀ (xs : List (List UInt8)) (y : List UInt8), sepBy (xs ++ [y]) = sepBy xs ++ (cm xs.length ++ y)
  | [], y => rfl
  | [x], y => by simp [sepBy, cm]
  | x :: x' :: r, y => by
    have ih := sepBy_snoc (x' :: r) y
    have e : cm (x :: x' :: r).length = cm (x' :: r).length := by simp [cm]
    rw [e]
    show x ++ 44 :: sepBy (x' :: r ++ [y]) = _
    rw [ih]
    simp [sepBy]
theorem sepBy_part : ∀ (xs ys : List (List UInt8)), (sepBy xs).length ≤ (sepBy (xs ++ ys)).length
  | [], ys => by simp [sepBy]
  | [x], [] => by simp
  | [x], y :: ys => by simp [sepBy]
  | x :: x' :: r, ys => by
    have ih := sepBy_part (x' :: r) ys
    show (x ++ 44 :: sepBy (x' :: r)).length ≤ (x ++ 44 :: sepBy (x' :: r ++ ys)).length
    rw [List.length_append, List.length_append, List.length_cons, List.length_cons]
    omega
theorem sepBy_take {xs : List (List UInt8)} {k : Nat} {y : List UInt8} (h : xs[k]? = some y) : sepBy (xs.take (k + 1)) = sepBy (xs.take k) ++ (cm k ++ y) := by
  have hlt := (List.getElem?_eq_some_iff.1 h).1
  have e : xs.take (k + 1) = xs.take k ++ [y] := by
    rw [List.take_add_one, h]; rfl
  rw [e, sepBy_snoc, List.length_take, Nat.min_eq_left (by omega)]
theorem sepBy_take_len (xs : List (List UInt8)) (k : Nat) : (sepBy (xs.take k)).length ≤ (sepBy xs).length := by
  have := sepBy_part (xs.take k) (xs.drop k)
  rwa [List.take_append_drop] at this

/-- a value that is printed whole. -/
def Fit : Nat → V → Prop
  | 0, v => I64 v.num ∧ v.text.size ≤ 1000000
  | n + 1, v => I64 v.num ∧ v.text.size ≤ 1000000 ∧ (∀ x ∈ v.list, Fit n x) ∧ ∀ p ∈ v.fields, p.1.size ≤ 1000000 ∧ Fit n p.2
theorem Fit.here {n : Nat} {v : V} (h : Fit n v) : I64 v.num ∧ v.text.size ≤ 1000000 := by
  cases n with
  | zero => exact h
  | succ n => exact ⟨h.1, h.2.1⟩
end Go.Proofs.YtdcaohnaiepllaaGreatDoor
