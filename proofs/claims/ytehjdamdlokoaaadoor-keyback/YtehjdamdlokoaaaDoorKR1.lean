/-
  The program's reader of keys: the byte ahead. Conditions: as stated.
-/
import Derived.Test.YtehjdamdlokoaaaDoorKW1
import Derived.Test.YtehjdamdlokoaaaDoorVQ
import Derived.Lib.Bytes2
namespace Go.Proofs.YtehjdamdlokoaaaDoor
open Go.RowKit

/-- all that was there is as it was, but for one block. -/
structure KeptB (b : Nat) (w w' : World) : Prop where
  os : w'.os = w.os
  tape : w'.tape = w.tape
  output : w'.output = w.output
  size : w.heap.size ≤ w'.heap.size
  block : ∀ k, k < w.heap.size → k ≠ b → w'.heap[k]? = w.heap[k]?
theorem KeptB.refl (b : Nat) (w : World) : KeptB b w w := ⟨rfl, rfl, rfl, Nat.le_refl _, fun _ _ _ => rfl⟩
theorem KeptB.trans {b : Nat} {x y z : World} (h : KeptB b x y) (k : KeptB b y z) : KeptB b x z :=
  ⟨k.os.trans h.os, k.tape.trans h.tape, k.output.trans h.output, Nat.le_trans h.size k.size, fun i hi hb => (k.block i (Nat.lt_of_lt_of_le hi h.size) hb).trans (h.block i hi hb)⟩
theorem KeptB.of_below {b : Nat} {w w' : World} (h : Below w.heap.size w w') : KeptB b w w' := ⟨h.os, h.tape, h.output, h.size, fun k hk _ => h.block k hk⟩
theorem KeptB.below {b B : Nat} {w w' : World} (h : KeptB b w w') (hB : B ≤ b) (hw : B ≤ w.heap.size) : Below B w w' := ⟨h.os, h.tape, h.output, h.size, fun k hk => h.block k (by omega) (by omega)⟩
theorem KeptB.set {b o : Nat} {v : Value} (w : World) : KeptB b w (w.setCell ⟨b, o, none⟩ v) :=
  ⟨rfl, rfl, rfl, by simp [World.setCell], fun k _ hk => Below.heap_setCell _ _ _ _ hk⟩
/-- a reader with so much left. -/
structure RdK (w0 : World) (b : Nat) (l : List UInt8) (w : World) : Prop where
  below : Below w0.heap.size w0 w
  le : w0.heap.size ≤ b
  rd : ∃ s : ByteArray, s.data.toList = l ∧ w.heap[b]? = some (.cells #[.string s] 54 (0, 0))
  len : l.length ≤ 1000000
theorem RdK.lt {w0 : World} {b : Nat} {l : List UInt8} {w : World} (h : RdK w0 b l w) : b < w.heap.size := by
  obtain ⟨s, _, h⟩ := h.rd
  exact lt_of_heap h
theorem RdK.same {w0 : World} {b : Nat} {l : List UInt8} {w w' : World} (h : RdK w0 b l w) (hb : Below w.heap.size w w') : RdK w0 b l w' := by
  refine ⟨h.below.trans (hb.mono h.below.size), h.le, ?_, h.len⟩
  obtain ⟨s, e, h⟩ := h.rd
  exact ⟨s, e, (hb.block _ (lt_of_heap h)).trans h⟩
theorem RdK.set {w0 : World} {b : Nat} {l m : List UInt8} {w : World} {s : ByteArray} (h : RdK w0 b l w) (hs : s.data.toList = m) (hm : m.length ≤ l.length) : RdK w0 b m (w.setCell ⟨b, 0, none⟩ (.string s)) := by
  refine ⟨h.below.trans ((KeptB.set w).below h.le h.below.size), h.le, ⟨s, hs, ?_⟩, Nat.le_trans hm h.len⟩
  obtain ⟨s', _, h⟩ := h.rd
  simp [World.setCell, Array.getElem?_modify, h]

theorem ba_nil {s : ByteArray} (h : s.data.toList = []) : s = ⟨#[]⟩ := by
  cases s with
  | mk d =>
    simp at h
    rw [h]
theorem ba_size (s : ByteArray) : s.size = s.data.toList.length := by simp
theorem ba_tail {s : ByteArray} {c : UInt8} {r : List UInt8} (h : s.data.toList = c :: r) : (s.extract 1 s.size).data.toList = r := by
  have hs := ba_size s
  rw [h, List.length_cons] at hs
  have e : (s.extract 1 s.size).data.toList = List.take (s.size - 1) r := by simp [h]
  rw [e]
  exact List.take_of_length_le (by omega)
theorem cellK {w : World} {b : Nat} {cs : Array Value} {t : TypeId} {x : Value} {k : Nat} (h : w.heap[b]? = some (.cells cs t (0, 0))) (hk : cs[k]? = some x) : w.cell? ⟨b, k, none⟩ = some x := by
  simp only [World.cell?, h]
  exact hk

set_option maxHeartbeats 1000000 in
theorem next_nil {w0 : World} {b : Nat} {w : World} (R : RdK w0 b [] w) :
    Calls Tryd.prog 35 #[.pointer (some ⟨b, 0, none⟩)] w fun e w' => e = .returned (.tuple #[.int .u8 0, .bool false]) ∧ w' = w := by
  obtain ⟨s, hs, hr⟩ := R.rd
  obtain rfl := ba_nil hs
  have c0 : w.cell? ⟨b, 0, none⟩ = some (.string ⟨#[]⟩) := cellK hr rfl
  have hb := R.lt
  clear R hs hr
  go_enter Tryd.func35, Tryd.ntmps35
  go_wp2_with fail
  go_ret2
  exact ⟨rfl, rfl⟩
/-- what a reader that has something left is. -/
theorem RdK.cons {w0 : World} {b : Nat} {w : World} {c : UInt8} {r : List UInt8} (R : RdK w0 b (c :: r) w) : ∃ s : ByteArray, ∃ hpos : 0 < s.size, s[0]'hpos = c ∧ w.cell? ⟨b, 0, none⟩ = some (.string s) ∧ w.frozen? ⟨b, 0, none⟩ = false ∧ s.toList.isEmpty = false ∧ (1 : Int) ≤ (s.size : Int) ∧ (s.extract 1 s.size).data.toList = r := by
  obtain ⟨s, hs, hr⟩ := R.rd
  have hpos : 0 < s.size := by rw [ba_size, hs]; simp
  refine ⟨s, hpos, ?_, cellK hr rfl, by simp [World.frozen?, hr], ?_, by omega, ba_tail hs⟩
  · have h2 : s.data.toList[0]'(by rw [hs]; simp) = c := by simp [hs]
    exact h2
  · have e : s.toList = c :: r := by rw [← hs]; exact Lib.toList_data s
    rw [e]; rfl
set_option maxHeartbeats 1000000 in
theorem next_cons {w0 : World} {b : Nat} {w : World} {c : UInt8} {r : List UInt8} (R : RdK w0 b (c :: r) w) :
    Calls Tryd.prog 35 #[.pointer (some ⟨b, 0, none⟩)] w fun e w' => e = .returned (.tuple #[.int .u8 (c.toNat : Int), .bool true]) ∧ KeptB b w w' ∧ RdK w0 b r w' := by
  obtain ⟨s, hpos, hx, c0, cf, hne, z2, hT⟩ := R.cons
  have hb := R.lt
  have z1 : (0 : Int) < (s.size : Int) := by omega
  have HR := (show Hid _ from And.intro R hT)
  clear R hT
  go_enter Tryd.func35, Tryd.ntmps35
  go_wp2_with fail
  go_ret2
  exact ⟨rfl, KeptB.set _, HR.out.1.set HR.out.2 (by simp)⟩

set_option maxHeartbeats 1000000 in
theorem take_nil {w0 : World} {b : Nat} {w : World} (R : RdK w0 b [] w) (c : Int) :
    Calls Tryd.prog 48 #[.pointer (some ⟨b, 0, none⟩), .int .u8 c] w fun e w' => e = .returned (.bool false) ∧ w' = w := by
  obtain ⟨s, hs, hr⟩ := R.rd
  obtain rfl := ba_nil hs
  have c0 : w.cell? ⟨b, 0, none⟩ = some (.string ⟨#[]⟩) := cellK hr rfl
  have hb := R.lt
  clear R hs hr
  go_enter Tryd.func48, Tryd.ntmps48
  go_wp2_with fail
  go_ret
  exact ⟨rfl, rfl⟩
set_option maxHeartbeats 1000000 in
theorem take_no {w0 : World} {b : Nat} {w : World} {c : UInt8} {r : List UInt8} (R : RdK w0 b (c :: r) w) (d : Int) (hd : ¬ (c.toNat : Int) = d) :
    Calls Tryd.prog 48 #[.pointer (some ⟨b, 0, none⟩), .int .u8 d] w fun e w' => e = .returned (.bool false) ∧ w' = w := by
  obtain ⟨s, hpos, hx, c0, cf, hne, z2, hT⟩ := R.cons
  have hb := R.lt
  have z1 : (0 : Int) < (s.size : Int) := by omega
  have hcd : ((c.toNat : Int) == d) = false := by simpa using hd
  have hcd2 : ((c.toNat : Int) != d) = true := by simpa using hd
  clear R hT hd
  go_enter Tryd.func48, Tryd.ntmps48
  go_wp2_with fail
  go_ret
  exact ⟨rfl, rfl⟩
set_option maxHeartbeats 1000000 in
theorem take_yes {w0 : World} {b : Nat} {w : World} {c : UInt8} {r : List UInt8} (R : RdK w0 b (c :: r) w) (d : Int) (hd : (c.toNat : Int) = d) :
    Calls Tryd.prog 48 #[.pointer (some ⟨b, 0, none⟩), .int .u8 d] w fun e w' => e = .returned (.bool true) ∧ KeptB b w w' ∧ RdK w0 b r w' := by
  subst hd
  obtain ⟨s, hpos, hx, c0, cf, hne, z2, hT⟩ := R.cons
  have hb := R.lt
  have z1 : (0 : Int) < (s.size : Int) := by omega
  have HR := (show Hid _ from And.intro R hT)
  clear R hT
  go_enter Tryd.func48, Tryd.ntmps48
  go_wp2_with fail
  go_ret
  exact ⟨rfl, KeptB.set _, HR.out.1.set HR.out.2 (by simp)⟩
end Go.Proofs.YtehjdamdlokoaaaDoor
