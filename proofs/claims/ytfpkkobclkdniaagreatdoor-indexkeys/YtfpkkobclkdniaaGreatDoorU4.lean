/-
  The law's Made by its contract, but for lists and objects. No conditions beyond those stated.
  slices.Insert at fields by its contract: a slice without room. No conditions beyond those stated.
  package value's Get by its contract; what Set and Del do, as plain functions. No conditions beyond those stated.
  package value's Set by its contract. Condition: there is room for one more field (fewer than a million).
  The law's Made at lists, by its contract. No conditions beyond those stated.
-/
import Derived.Test.YtfpkkobclkdniaaGreatDoorU3
import Derived.Lib.AppendZerosOnto
import Derived.Lib.SlBuf
import Derived.Deep.AppendLies
namespace Go.Proofs.YtfpkkobclkdniaaGreatDoor
open Go.RowKit

/-- wherever the one slice of bytes lies, the other one does. -/
def Tl (s : Value) (bs : List UInt8) (r : Value) : Prop := ∃ bs', ∀ W, BytesAt W s bs → BytesAt W r bs'
/-- what Made answers: a value, where it lies, and what is left of the bytes. -/
def MadeV (d : Nat) (w w' : World) (s : Value) (bs : List UInt8) (x : V) (l f r : Value) : Prop := Nice d x ∧ Rep (fun k => w.heap.size ≤ k) d w' x l f ∧ Tl s bs r ∧ Below w.heap.size w w'

theorem BytesAt.tail {W : World} {a : Option Addr} {cap : Nat} {u : UInt8} {bs : List UInt8} (h : BytesAt W (.slice a (u :: bs).length cap) (u :: bs)) : ∃ b o, a = some ⟨b, o, none⟩ ∧ W.cell? ⟨b, o, none⟩ = some (.int .u8 u.toNat) ∧ bs.length + 1 ≤ cap ∧ cap ≤ 9223372036854775807 ∧
    BytesAt W (.slice (if cap = 1 then some ⟨b, o, none⟩ else some ⟨b, o + 1, none⟩) bs.length (cap - 1)) bs := by
  obtain ⟨a', cap', h1, h2, h3, h4⟩ := h
  simp only [Value.slice.injEq, true_and] at h1
  obtain ⟨rfl, rfl⟩ := h1
  obtain ⟨b, o, rfl, h6⟩ := h4 (by simp)
  refine ⟨b, o, rfl, by simpa using h6 0 u rfl, by simpa using h2, h3, _, _, rfl, by simp at h2; omega, by omega, fun hne => ?_⟩
  have : ¬ cap = 1 := by
    intro e
    have : bs.length ≠ 0 := fun h => hne (List.length_eq_zero_iff.1 h)
    simp at h2
    omega
  rw [if_neg this]
  refine ⟨b, o + 1, rfl, fun j v hj => ?_⟩
  have := h6 (j + 1) v (by simpa using hj)
  rw [Nat.add_assoc, Nat.add_comm 1 j]
  exact this

theorem Nice.of (d : Nat) (k m : Int) (t : ByteArray) (h1 : 0 ≤ k) (h2 : k ≤ 5) (h3 : I64 m) (h4 : Wd k m t) : Nice d ⟨k, m, t, [], []⟩ := Nice.plain d h1 h2 h3 h4 rfl rfl

set_option maxHeartbeats 1000000 in
theorem Made_empty (d : Nat) (deep : Int) (a : Option Addr) (cap : Nat) (w : World) : Calls Tryz.prog 37 #[.slice a 0 cap, .int .i64 deep] w
    fun e w' => ∃ x l f r, e = .returned (.tuple #[.agg #[.int .i64 x.kind, .int .i64 x.num, .string x.text, l, f], r]) ∧ MadeV d w w' (.slice a 0 cap) [] x l f r := by
  go_enter Tryz.func37, Tryz.ntmps37
  go_wp2
  refine bodyPost_ret (v := .tuple #[.agg #[.int .i64 0, .int .i64 0, .string ⟨#[]⟩, .slice none 0 0, .slice none 0 0], .slice none 0 0]) (by simp [results, Tryz.results37, go_sem]) rfl ⟨⟨0, 0, ⟨#[]⟩, [], []⟩, _, _, _, rfl, Nice.of d _ _ _ (by decide) (by decide) ⟨by decide, by decide⟩ (Wd.no _ _ (by decide)), Rep.le (n := 0) ⟨rfl, rfl, rfl, rfl⟩ (Nat.zero_le _), ⟨[], fun _ _ => ⟨none, 0, rfl, by simp, by omega, fun h => absurd rfl h⟩⟩, (Below.refl _ _).alloc (Nat.le_refl _) _⟩

set_option maxHeartbeats 1000000 in
theorem Made_bool (d : Nat) (deep : Int) (u : UInt8) (bs : List UInt8) (a : Option Addr) (cap : Nat) (w : World) (hb : BytesAt w (.slice a (u :: bs).length cap) (u :: bs)) (hr : (u.toNat : Int) % 6 = 1) : Calls Tryz.prog 37 #[.slice a (u :: bs).length cap, .int .i64 deep] w
    fun e w' => ∃ x l f r, e = .returned (.tuple #[.agg #[.int .i64 x.kind, .int .i64 x.num, .string x.text, l, f], r]) ∧ MadeV d w w' (.slice a (u :: bs).length cap) (u :: bs) x l f r := by
  obtain ⟨b, o, rfl, c0, h1, h2, ht⟩ := hb.tail
  obtain ⟨A, hA⟩ : ∃ A : Option Addr, (if cap = 1 then some (⟨b, o, none⟩ : Addr) else some ⟨b, o + 1, none⟩) = A := ⟨_, rfl⟩
  have hlt := lt_of_cell c0
  have hu : u.toNat < 256 := u.toNat_lt
  obtain ⟨c, hc⟩ : ∃ c : Int, (u.toNat : Int) = c := ⟨_, rfl⟩
  rw [hc] at c0 hr
  have c1 : 0 ≤ c := by omega
  have c2 : c ≤ 255 := by omega
  have HT : Hid (Tl (.slice (some ⟨b, o, none⟩) (u :: bs).length cap) (u :: bs) (.slice A bs.length (cap - 1))) := ⟨bs, fun W hW => by obtain ⟨b', o', e, _, _, _, ht'⟩ := hW.tail; cases e; rw [hA] at ht'; exact ht'⟩
  simp only [List.length_cons]
  clear ht hb hu hc
  go_enter Tryz.func37, Tryz.ntmps37
  go_wp2
  refine bodyPost_ret (v := .tuple #[.agg #[.int .i64 1, .int .i64 (c / 6 % 2), .string ⟨#[]⟩, .slice none 0 0, .slice none 0 0], .slice A bs.length (cap - 1)]) (by simp [results, Tryz.results37, go_sem]) rfl ⟨⟨1, c / 6 % 2, ⟨#[]⟩, [], []⟩, _, _, _, rfl, Nice.of d _ _ _ (by decide) (by decide) ⟨by omega, by omega⟩ ⟨⟨0, rfl⟩, fun _ => by omega⟩, Rep.le (n := 0) ⟨rfl, rfl, rfl, rfl⟩ (Nat.zero_le _), HT.out, (Below.refl _ _).alloc (Nat.le_refl _) _⟩

set_option maxHeartbeats 1000000 in
theorem Made_int (d : Nat) (deep : Int) (u : UInt8) (bs : List UInt8) (a : Option Addr) (cap : Nat) (w : World) (hb : BytesAt w (.slice a (u :: bs).length cap) (u :: bs)) (hr : (u.toNat : Int) % 6 = 2) : Calls Tryz.prog 37 #[.slice a (u :: bs).length cap, .int .i64 deep] w
    fun e w' => ∃ x l f r, e = .returned (.tuple #[.agg #[.int .i64 x.kind, .int .i64 x.num, .string x.text, l, f], r]) ∧ MadeV d w w' (.slice a (u :: bs).length cap) (u :: bs) x l f r := by
  obtain ⟨b, o, rfl, c0, h1, h2, ht⟩ := hb.tail
  obtain ⟨A, hA⟩ : ∃ A : Option Addr, (if cap = 1 then some (⟨b, o, none⟩ : Addr) else some ⟨b, o + 1, none⟩) = A := ⟨_, rfl⟩
  have hlt := lt_of_cell c0
  have hu : u.toNat < 256 := u.toNat_lt
  obtain ⟨c, hc⟩ : ∃ c : Int, (u.toNat : Int) = c := ⟨_, rfl⟩
  rw [hc] at c0 hr
  have c1 : 0 ≤ c := by omega
  have c2 : c ≤ 255 := by omega
  have HT : Hid (Tl (.slice (some ⟨b, o, none⟩) (u :: bs).length cap) (u :: bs) (.slice A bs.length (cap - 1))) := ⟨bs, fun W hW => by obtain ⟨b', o', e, _, _, _, ht'⟩ := hW.tail; cases e; rw [hA] at ht'; exact ht'⟩
  simp only [List.length_cons]
  clear ht hb hu hc
  go_enter Tryz.func37, Tryz.ntmps37
  go_wp2_with fail
  refine (one_any (c / 6) (by omega) (by omega) _).mono ?_
  rintro e w' ⟨m, rfl, hm, rfl⟩
  go_wp2
  refine bodyPost_ret (v := .tuple #[.agg #[.int .i64 2, .int .i64 m, .string ⟨#[]⟩, .slice none 0 0, .slice none 0 0], .slice A bs.length (cap - 1)]) (by simp [results, Tryz.results37, go_sem]) rfl ⟨⟨2, m, ⟨#[]⟩, [], []⟩, _, _, _, rfl, Nice.of d _ _ _ (by decide) (by decide) hm (Wd.no _ _ (by decide)), Rep.le (n := 0) ⟨rfl, rfl, rfl, rfl⟩ (Nat.zero_le _), HT.out, (Below.refl _ _).alloc (Nat.le_refl _) _⟩

set_option maxHeartbeats 1000000 in
theorem Made_text (d : Nat) (deep : Int) (u : UInt8) (bs : List UInt8) (a : Option Addr) (cap : Nat) (w : World) (hb : BytesAt w (.slice a (u :: bs).length cap) (u :: bs)) (hT : Tabs w) (hr : (u.toNat : Int) % 6 = 3) : Calls Tryz.prog 37 #[.slice a (u :: bs).length cap, .int .i64 deep] w
    fun e w' => ∃ x l f r, e = .returned (.tuple #[.agg #[.int .i64 x.kind, .int .i64 x.num, .string x.text, l, f], r]) ∧ MadeV d w w' (.slice a (u :: bs).length cap) (u :: bs) x l f r := by
  obtain ⟨b, o, rfl, c0, h1, h2, ht⟩ := hb.tail
  obtain ⟨A, hA⟩ : ∃ A : Option Addr, (if cap = 1 then some (⟨b, o, none⟩ : Addr) else some ⟨b, o + 1, none⟩) = A := ⟨_, rfl⟩
  have hlt := lt_of_cell c0
  have hu : u.toNat < 256 := u.toNat_lt
  obtain ⟨c, hc⟩ : ∃ c : Int, (u.toNat : Int) = c := ⟨_, rfl⟩
  rw [hc] at c0 hr
  have c1 : 0 ≤ c := by omega
  have c2 : c ≤ 255 := by omega
  have HT : Hid (Tl (.slice (some ⟨b, o, none⟩) (u :: bs).length cap) (u :: bs) (.slice A bs.length (cap - 1))) := ⟨bs, fun W hW => by obtain ⟨b', o', e, _, _, _, ht'⟩ := hW.tail; cases e; rw [hA] at ht'; exact ht'⟩
  simp only [List.length_cons]
  clear ht hb hu hc
  obtain ⟨m, hm⟩ : ∃ m : Nat, c / 6 % 8 = (m : Int) := ⟨(c / 6 % 8).toNat, by omega⟩
  have hm8 : m < 8 := by omega
  have cw := hT.words m hm8
  have hlw := lt_of_cell cw
  have zm : (m : Int) < 8 := by omega
  go_enter Tryz.func37, Tryz.ntmps37
  go_wp2
  refine bodyPost_ret (v := .tuple #[.agg #[.int .i64 3, .int .i64 0, .string (wordAt m), .slice none 0 0, .slice none 0 0], .slice A bs.length (cap - 1)]) (by simp [results, Tryz.results37, go_sem]) rfl ⟨⟨3, 0, wordAt m, [], []⟩, _, _, _, rfl, Nice.of d _ _ _ (by decide) (by decide) ⟨by decide, by decide⟩ ⟨⟨m, rfl⟩, fun e => absurd e (by decide)⟩, Rep.le (n := 0) ⟨rfl, rfl, rfl, rfl⟩ (Nat.zero_le _), HT.out, (Below.refl _ _).alloc (Nat.le_refl _) _⟩

set_option maxHeartbeats 1000000 in
theorem Made_zero (d : Nat) (deep : Int) (u : UInt8) (bs : List UInt8) (a : Option Addr) (cap : Nat) (w : World) (hb : BytesAt w (.slice a (u :: bs).length cap) (u :: bs)) (hr : (u.toNat : Int) % 6 = 0) : Calls Tryz.prog 37 #[.slice a (u :: bs).length cap, .int .i64 deep] w
    fun e w' => ∃ x l f r, e = .returned (.tuple #[.agg #[.int .i64 x.kind, .int .i64 x.num, .string x.text, l, f], r]) ∧ MadeV d w w' (.slice a (u :: bs).length cap) (u :: bs) x l f r := by
  obtain ⟨b, o, rfl, c0, h1, h2, ht⟩ := hb.tail
  obtain ⟨A, hA⟩ : ∃ A : Option Addr, (if cap = 1 then some (⟨b, o, none⟩ : Addr) else some ⟨b, o + 1, none⟩) = A := ⟨_, rfl⟩
  have hlt := lt_of_cell c0
  have hu : u.toNat < 256 := u.toNat_lt
  obtain ⟨c, hc⟩ : ∃ c : Int, (u.toNat : Int) = c := ⟨_, rfl⟩
  rw [hc] at c0 hr
  have c1 : 0 ≤ c := by omega
  have c2 : c ≤ 255 := by omega
  have HT : Hid (Tl (.slice (some ⟨b, o, none⟩) (u :: bs).length cap) (u :: bs) (.slice A bs.length (cap - 1))) := ⟨bs, fun W hW => by obtain ⟨b', o', e, _, _, _, ht'⟩ := hW.tail; cases e; rw [hA] at ht'; exact ht'⟩
  simp only [List.length_cons]
  clear ht hb hu hc
  go_enter Tryz.func37, Tryz.ntmps37
  go_wp2
  refine bodyPost_ret (v := .tuple #[.agg #[.int .i64 0, .int .i64 0, .string ⟨#[]⟩, .slice none 0 0, .slice none 0 0], .slice A bs.length (cap - 1)]) (by simp [results, Tryz.results37, go_sem]) rfl ⟨⟨0, 0, ⟨#[]⟩, [], []⟩, _, _, _, rfl, Nice.of d _ _ _ (by decide) (by decide) ⟨by decide, by decide⟩ (Wd.no _ _ (by decide)), Rep.le (n := 0) ⟨rfl, rfl, rfl, rfl⟩ (Nat.zero_le _), HT.out, (Below.refl _ _).alloc (Nat.le_refl _) _⟩

set_option maxHeartbeats 1000000 in
theorem Made_four (d : Nat) (deep : Int) (u : UInt8) (bs : List UInt8) (a : Option Addr) (cap : Nat) (w : World) (hb : BytesAt w (.slice a (u :: bs).length cap) (u :: bs)) (hd : deep ≤ 1) (hr : (u.toNat : Int) % 6 = 4) : Calls Tryz.prog 37 #[.slice a (u :: bs).length cap, .int .i64 deep] w
    fun e w' => ∃ x l f r, e = .returned (.tuple #[.agg #[.int .i64 x.kind, .int .i64 x.num, .string x.text, l, f], r]) ∧ MadeV d w w' (.slice a (u :: bs).length cap) (u :: bs) x l f r := by
  obtain ⟨b, o, rfl, c0, h1, h2, ht⟩ := hb.tail
  obtain ⟨A, hA⟩ : ∃ A : Option Addr, (if cap = 1 then some (⟨b, o, none⟩ : Addr) else some ⟨b, o + 1, none⟩) = A := ⟨_, rfl⟩
  have hlt := lt_of_cell c0
  have hu : u.toNat < 256 := u.toNat_lt
  obtain ⟨c, hc⟩ : ∃ c : Int, (u.toNat : Int) = c := ⟨_, rfl⟩
  rw [hc] at c0 hr
  have c1 : 0 ≤ c := by omega
  have c2 : c ≤ 255 := by omega
  have HT : Hid (Tl (.slice (some ⟨b, o, none⟩) (u :: bs).length cap) (u :: bs) (.slice A bs.length (cap - 1))) := ⟨bs, fun W hW => by obtain ⟨b', o', e, _, _, _, ht'⟩ := hW.tail; cases e; rw [hA] at ht'; exact ht'⟩
  simp only [List.length_cons]
  clear ht hb hu hc
  have hd1 : ¬ 1 < deep := by omega
  go_enter Tryz.func37, Tryz.ntmps37
  go_wp2
  refine bodyPost_ret (v := .tuple #[.agg #[.int .i64 0, .int .i64 0, .string ⟨#[]⟩, .slice none 0 0, .slice none 0 0], .slice A bs.length (cap - 1)]) (by simp [results, Tryz.results37, go_sem]) rfl ⟨⟨0, 0, ⟨#[]⟩, [], []⟩, _, _, _, rfl, Nice.of d _ _ _ (by decide) (by decide) ⟨by decide, by decide⟩ (Wd.no _ _ (by decide)), Rep.le (n := 0) ⟨rfl, rfl, rfl, rfl⟩ (Nat.zero_le _), HT.out, (Below.refl _ _).alloc (Nat.le_refl _) _⟩

set_option maxHeartbeats 1000000 in
theorem Made_five (d : Nat) (deep : Int) (u : UInt8) (bs : List UInt8) (a : Option Addr) (cap : Nat) (w : World) (hb : BytesAt w (.slice a (u :: bs).length cap) (u :: bs)) (hd : deep ≤ 1) (hr : (u.toNat : Int) % 6 = 5) : Calls Tryz.prog 37 #[.slice a (u :: bs).length cap, .int .i64 deep] w
    fun e w' => ∃ x l f r, e = .returned (.tuple #[.agg #[.int .i64 x.kind, .int .i64 x.num, .string x.text, l, f], r]) ∧ MadeV d w w' (.slice a (u :: bs).length cap) (u :: bs) x l f r := by
  obtain ⟨b, o, rfl, c0, h1, h2, ht⟩ := hb.tail
  obtain ⟨A, hA⟩ : ∃ A : Option Addr, (if cap = 1 then some (⟨b, o, none⟩ : Addr) else some ⟨b, o + 1, none⟩) = A := ⟨_, rfl⟩
  have hlt := lt_of_cell c0
  have hu : u.toNat < 256 := u.toNat_lt
  obtain ⟨c, hc⟩ : ∃ c : Int, (u.toNat : Int) = c := ⟨_, rfl⟩
  rw [hc] at c0 hr
  have c1 : 0 ≤ c := by omega
  have c2 : c ≤ 255 := by omega
  have HT : Hid (Tl (.slice (some ⟨b, o, none⟩) (u :: bs).length cap) (u :: bs) (.slice A bs.length (cap - 1))) := ⟨bs, fun W hW => by obtain ⟨b', o', e, _, _, _, ht'⟩ := hW.tail; cases e; rw [hA] at ht'; exact ht'⟩
  simp only [List.length_cons]
  clear ht hb hu hc
  have hd1 : ¬ 1 < deep := by omega
  go_enter Tryz.func37, Tryz.ntmps37
  go_wp2
  refine bodyPost_ret (v := .tuple #[.agg #[.int .i64 0, .int .i64 0, .string ⟨#[]⟩, .slice none 0 0, .slice none 0 0], .slice A bs.length (cap - 1)]) (by simp [results, Tryz.results37, go_sem]) rfl ⟨⟨0, 0, ⟨#[]⟩, [], []⟩, _, _, _, rfl, Nice.of d _ _ _ (by decide) (by decide) ⟨by decide, by decide⟩ (Wd.no _ _ (by decide)), Rep.le (n := 0) ⟨rfl, rfl, rfl, rfl⟩ (Nat.zero_le _), HT.out, (Below.refl _ _).alloc (Nat.le_refl _) _⟩

end Go.Proofs.YtfpkkobclkdniaaGreatDoor

namespace Go.Proofs.YtfpkkobclkdniaaGreatDoor
open Go.RowKit

theorem run_copy_rows (w : World) (ty g o dLen dCap : Nat) (a : Addr) (sLen sCap : Nat) (cur : Array Value) (cs : List Value)
    (hg : w.heap[g]? = some (.cells cur 72 (0, 0))) (hn : cs.length = Nat.min sLen dLen * 6)
    (hsrc : ∀ j v, cs[j]? = some v → w.cell? (a.add j) = some v) (hfit : o + cs.length ≤ cur.size) (h1 : ∀ v ∈ cs, v.oneCell' = true) :
    (Builtin.copy_ #[38, 38] ty #[.slice (some ⟨g, o, none⟩) dLen dCap, .slice (some a) sLen sCap]).run Tryz.prog w =
      .ok (goInt (Nat.min sLen dLen)) (w.setRow g (cur.toList.take o ++ cs ++ cur.toList.drop (o + cs.length)).toArray) := by
  obtain ⟨j0, hi0, hz0, hz1, hz2⟩ := info_parts infoF
  have hl := run_firstCells_some (P := Tryz.prog) w 6 (Nat.min sLen dLen) a sLen sCap cs hn hsrc
  have hst := run_storeCells_at Tryz.prog g o 72 cs 0 cur w hg (by simpa using hfit) h1
  simp only [Nat.add_zero] at hst
  simp [Builtin.copy_, run_underlying Tryz.underlying38, Builtin.lenOf, sizeOf, typeInfo, hi0, hz1, hl, hst]

theorem below_row {B g : Nat} {w0 w : World} (hb : Below B w0 w) (hBg : B ≤ g) (cs : Array Value) : Below B w0 (w.setRow g cs) :=
  ⟨hb.os, hb.tape, hb.output, by simp only [setRow_size]; exact hb.size, fun k hk => by rw [setRow_other w g k cs (by omega)]; exact hb.block k hk⟩

end Go.Proofs.YtfpkkobclkdniaaGreatDoor

namespace Go.Proofs.YtfpkkobclkdniaaGreatDoor
open Go.RowKit

def zeroV : V := ⟨0, 0, ⟨#[]⟩, [], []⟩
/-- the value of the first field of that name. -/
def getV (v : V) (name : ByteArray) : Option V := if v.kind = 5 then getF name v.fields else none
/-- the first field of that name is x. -/
def replF (name : ByteArray) (x : V) : List (ByteArray × V) → List (ByteArray × V)
  | [] => []
  | f :: fs => if cmpT f.1 name = 0 then (f.1, x) :: fs else f :: replF name x fs
/-- ahead of the first field whose name is above. -/
def insF (name : ByteArray) (x : V) : List (ByteArray × V) → List (ByteArray × V)
  | [] => [(name, x)]
  | f :: fs => if 0 < cmpT f.1 name then (name, x) :: f :: fs else f :: insF name x fs
def setG (name : ByteArray) (x : V) (fs : List (ByteArray × V)) : List (ByteArray × V) := if (getF name fs).isSome then replF name x fs else insF name x fs

theorem where_name (name : ByteArray) : ∀ fs : List (ByteArray × V), (whereI (isName name) fs = -1 ∧ getF name fs = none) ∨
    ∃ (j : Nat) (q : ByteArray) (x : V), whereI (isName name) fs = j ∧ fs[j]? = some (q, x) ∧ getF name fs = some x ∧ (∀ y, replF name y fs = fs.set j (q, y)) ∧ delF name fs = fs.take j ++ fs.drop (j + 1)
  | [] => .inl ⟨rfl, rfl⟩
  | f :: fs => by
    by_cases h : cmpT f.1 name = 0
    · right
      refine ⟨0, f.1, f.2, ?_, rfl, ?_, fun y => ?_, ?_⟩
      · simp [whereI, isName, h]
      · simp [getF, h]
      · simp [replF, h]
      · simp [delF, h]
    · have hn : isName name f = false := by unfold isName; exact decide_eq_false h
      rcases where_name name fs with ⟨h1, h2⟩ | ⟨j, q, x, h1, h2, h3, h4, h5⟩
      · left
        constructor
        · simp [whereI, hn, h1]
        · simp [getF, h, h2]
      · right
        refine ⟨j + 1, q, x, ?_, by simpa using h2, ?_, fun y => ?_, ?_⟩
        · simp only [whereI, hn, h1]
          rw [if_neg (by simp), if_neg (by omega)]
          omega
        · simp [getF, h, h3]
        · simp [replF, h, h4]
        · simp [delF, h, h5]
theorem where_above (name : ByteArray) (x : V) : ∀ fs : List (ByteArray × V), ∃ j : Nat, aboveI name fs = j ∧ j ≤ fs.length ∧ insF name x fs = fs.take j ++ (name, x) :: fs.drop j
  | [] => ⟨0, rfl, Nat.le_refl _, rfl⟩
  | f :: fs => by
    by_cases h : 0 < cmpT f.1 name
    · refine ⟨0, ?_, Nat.zero_le _, ?_⟩
      · simp [aboveI, whereI, isAbove, h]
      · simp [insF, h]
    · have hn : isAbove name f = false := by unfold isAbove; exact decide_eq_false h
      obtain ⟨j, h1, h2, h3⟩ := where_above name x fs
      refine ⟨j + 1, ?_, by simpa using h2, ?_⟩
      · have hr := whereI_range (isAbove name) fs
        unfold aboveI at h1 ⊢
        simp only [whereI, hn, List.length_cons, Bool.false_eq_true, if_false]
        by_cases h0 : whereI (isAbove name) fs < 0
        · rw [if_pos h0] at h1
          rw [if_pos h0, if_pos (by omega)]
          omega
        · rw [if_neg h0] at h1
          rw [if_neg h0, if_neg (by omega)]
          omega
      · simp [insF, h, h3]
theorem get_none_above {name : ByteArray} : ∀ {fs : List (ByteArray × V)} {f : ByteArray × V}, Rises (f :: fs) → 0 < cmpT f.1 name → getF name fs = none
  | [], _, _, _ => rfl
  | g :: gs, f, h, h0 => by
    have a1 := good_cmpT.anti f.1 name
    have a2 := good_cmpT.anti name g.1
    have := good_cmpT.lt_left (a := name) (b := f.1) (c := g.1) (by omega) (by have := h.1; omega)
    exact get_above h.2 (by omega)
/-- where names rise both ways are one. -/
theorem setG_eq (name : ByteArray) (x : V) : ∀ {fs}, Rises fs → setG name x fs = setF name x fs
  | [], _ => rfl
  | f :: fs, h => by
    have ih := setG_eq name x h.tail
    unfold setG at ih ⊢
    simp only [setF, getF]
    by_cases h0 : cmpT f.1 name = 0
    · simp [h0, replF]
    · simp only [h0, if_false]
      by_cases h1 : 0 < cmpT f.1 name
      · have := get_none_above h h1
        simp [h1, this, insF]
      · simp only [h1, if_false]
        rw [← ih]
        by_cases hs : (getF name fs).isSome = true
        · simp [hs, replF, h0]
        · simp [hs, insF, h1]

theorem row_below {w0 W : World} (hW : Below w0.heap.size w0 W) {b : Nat} {o : Obj} (h : w0.heap[b]? = some o) : W.heap[b]? = some o := (hW.block b (lt_of_heap h)).trans h
theorem heap_alloc3_0 {w : World} {o1 o2 o3 : Obj} : (((w.alloc o1).alloc o2).alloc o3).heap[w.heap.size]? = some o1 := by
  rw [Below.heap_alloc ((w.alloc o1).alloc o2) o3 w.heap.size (by simp; omega)]; exact heap_alloc2_old
theorem heap_alloc3_1 {w : World} {o1 o2 o3 : Obj} : (((w.alloc o1).alloc o2).alloc o3).heap[w.heap.size + 1]? = some o2 := by
  rw [Below.heap_alloc ((w.alloc o1).alloc o2) o3 (w.heap.size + 1) (by simp)]; exact heap_alloc2_new
theorem heap_alloc3_2 {w : World} {o1 o2 o3 : Obj} : (((w.alloc o1).alloc o2).alloc o3).heap[w.heap.size + 2]? = some o3 := by
  have := heap_alloc_new ((w.alloc o1).alloc o2) o3
  simpa using this

/-- what Get answers, where it lies. -/
def GotV (m : Nat) (w w' : World) (x : V) (l' f' : Value) : Prop := Rep (fun k => w.heap.size ≤ k) m w' x l' f' ∧ Below w.heap.size w w'

end Go.Proofs.YtfpkkobclkdniaaGreatDoor

namespace Go.Proofs.YtfpkkobclkdniaaGreatDoor
open Go.RowKit

/-- a row that is full, and where it lies. -/
theorem RowAt.full {W : World} {B n : Nat} {s : Value} {xs : List Value} {t : Nat} (h : RowAt (fun k => k = B) W t 6 s n xs) (hc : ∀ a m c, s = .slice a m c → c = m) (hn : 0 < n ∨ s ≠ .slice none 0 0) : s = .slice (some ⟨B, 0, none⟩) n n ∧ ∃ cur, W.heap[B]? = some (.cells cur t (0, 0)) ∧ cur.toList = xs := by
  obtain ⟨⟨h1, h2⟩, h3, h4⟩ := h
  rcases h2 with ⟨rfl, h5⟩ | ⟨g, cap, cur, rfl, _, hg, h5, h6, h7, h8⟩
  · rcases hn with hn | hn
    · omega
    · exact absurd rfl hn
  · have e1 := h4 g rfl
    have e2 := hc _ _ _ rfl
    subst e1 e2
    refine ⟨rfl, cur, hg, ?_⟩
    rw [← h8, List.take_of_length_le (by simp; omega)]
theorem encFs_set (fs : List Fl) (j : Nat) (e e' : Fl) (h : fs[j]? = some e) : encFs (fs.set j e') = encFs (fs.take j) ++ e'.enc ++ encFs (fs.drop (j + 1)) ∧ encFs fs = encFs (fs.take j) ++ e.enc ++ encFs (fs.drop (j + 1)) := by
  have hj : j < fs.length := (List.getElem?_eq_some_iff.1 h).1
  have e1 : fs.set j e' = fs.take j ++ e' :: fs.drop (j + 1) := by rw [List.set_eq_take_append_cons_drop, if_pos hj]
  have e2 : fs = fs.take j ++ e :: fs.drop (j + 1) := by
    have h3 := (List.getElem?_eq_some_iff.1 h).2
    rw [← h3, ← List.drop_eq_getElem_cons hj, List.take_append_drop]
  constructor
  · rw [e1, encFs_append, List.append_assoc]; rfl
  · have h4 : encFs fs = encFs (fs.take j ++ e :: fs.drop (j + 1)) := congrArg encFs e2
    rw [h4, encFs_append, List.append_assoc]; rfl
/-- the value of a field is written in place. -/
theorem row_set {W : World} {B j : Nat} {cur : Array Value} {fs : List Fl} {e : Fl} (hg : W.heap[B]? = some (.cells cur 72 (0, 0))) (hcur : cur.toList = encFs fs) (h : fs[j]? = some e) (v : V) (l f : Value) :
    ∃ cur', (((((W.setCell ⟨B, j * 6 + 1, none⟩ (.int .i64 v.kind)).setCell ⟨B, j * 6 + 2, none⟩ (.int .i64 v.num)).setCell ⟨B, j * 6 + 3, none⟩ (.string v.text)).setCell ⟨B, j * 6 + 4, none⟩ l).setCell ⟨B, j * 6 + 5, none⟩ f).heap[B]? = some (.cells cur' 72 (0, 0)) ∧ cur'.toList = encFs (fs.set j ⟨e.name, v, l, f⟩) := by
  have hj : j < fs.length := (List.getElem?_eq_some_iff.1 h).1
  have hsz : cur.size = fs.length * 6 := by rw [← Array.length_toList, hcur, encFs_length]
  obtain ⟨h1, h2⟩ := encFs_set fs j e ⟨e.name, v, l, f⟩ h
  have hX : (encFs (fs.take j)).length = j * 6 := by rw [encFs_length, List.length_take]; congr 1; omega
  refine ⟨_, set5 hg (i := j * 6 + 1) (by omega) _ _ _ _ _, ?_⟩
  rw [List.toList_toArray, hcur, h1]
  rw [h2]
  obtain ⟨en, ev, el, ef⟩ := e
  have a1 : List.take (j * 6 + 1) (encFs (fs.take j) ++ Fl.enc ⟨en, ev, el, ef⟩ ++ encFs (fs.drop (j + 1))) = encFs (fs.take j) ++ [.string en] := by
    have : (encFs (fs.take j) ++ [Value.string en]).length = j * 6 + 1 := by simp [hX]
    rw [← this, show encFs (fs.take j) ++ Fl.enc ⟨en, ev, el, ef⟩ ++ encFs (fs.drop (j + 1)) = (encFs (fs.take j) ++ [Value.string en]) ++ ([.int .i64 ev.kind, .int .i64 ev.num, .string ev.text, el, ef] ++ encFs (fs.drop (j + 1))) by simp [Fl.enc], List.take_left]
  have a2 : List.drop (j * 6 + 1 + 5) (encFs (fs.take j) ++ Fl.enc ⟨en, ev, el, ef⟩ ++ encFs (fs.drop (j + 1))) = encFs (fs.drop (j + 1)) := by
    have : (encFs (fs.take j) ++ Fl.enc ⟨en, ev, el, ef⟩).length = j * 6 + 1 + 5 := by rw [List.length_append, hX]; rfl
    rw [← this, List.drop_left]
  rw [a1, a2]
  simp [Fl.enc]

/-- five cells of one block, written. -/
def set5W (W : World) (B i0 i1 i2 i3 i4 : Nat) (a0 a1 a2 a3 a4 : Value) : World := ((((W.setCell ⟨B, i0, none⟩ a0).setCell ⟨B, i1, none⟩ a1).setCell ⟨B, i2, none⟩ a2).setCell ⟨B, i3, none⟩ a3).setCell ⟨B, i4, none⟩ a4
theorem set5W_ne (W : World) (B i0 i1 i2 i3 i4 : Nat) (a0 a1 a2 a3 a4 : Value) {k : Nat} (h : k ≠ B) : (set5W W B i0 i1 i2 i3 i4 a0 a1 a2 a3 a4).heap[k]? = W.heap[k]? := by
  unfold set5W
  rw [heap_setCell_ne _ _ _ h, heap_setCell_ne _ _ _ h, heap_setCell_ne _ _ _ h, heap_setCell_ne _ _ _ h, heap_setCell_ne _ _ _ h]
theorem set5W_size (W : World) (B i0 i1 i2 i3 i4 : Nat) (a0 a1 a2 a3 a4 : Value) : (set5W W B i0 i1 i2 i3 i4 a0 a1 a2 a3 a4).heap.size = W.heap.size := by simp [set5W]
theorem set5W_below {w W : World} {C B : Nat} (hb : Below C w W) (h : C ≤ B) (i0 i1 i2 i3 i4 : Nat) (a0 a1 a2 a3 a4 : Value) : Below C w (set5W W B i0 i1 i2 i3 i4 a0 a1 a2 a3 a4) :=
  ((((hb.setCell h _).setCell h _).setCell h _).setCell h _).setCell h _

end Go.Proofs.YtfpkkobclkdniaaGreatDoor

namespace Go.Proofs.YtfpkkobclkdniaaGreatDoor
open Go.RowKit

/-- the elements that were made so far: a list that grows. -/
structure Grows (d : Nat) (W : World) (B : Nat) (s : Value) (es : List El) : Prop where
  own : W.ownsRow (B + 1) 40 5 s es.length (encEs es)
  nice : ∀ e ∈ es, Nice d e.v
  rep : ∀ e ∈ es, Rep (fun b => B < b ∧ s.ownBlock ≠ some b) d W e.v e.l e.f
theorem Grows.move {d B : Nat} {W W' : World} {s : Value} {es : List El} (h : Grows d W B s es) (hm : ∀ b, B < b → b < W.heap.size → W'.heap[b]? = W.heap[b]?) : Grows d W' B s es :=
  ⟨ownsRow_move (fun b hb hl => ⟨(h.own.lt b hb).1, hm b (by have := (h.own.lt b hb).1; omega) hl⟩) h.own, h.nice, fun e he => (h.rep e he).move fun b hb hl => ⟨hb, hm b hb.1 hl⟩⟩
theorem ownsRow_slice {W : World} {base t k n : Nat} {s : Value} {xs : List Value} (h : W.ownsRow base t k s n xs) : ∃ a c, s = .slice a n c := by
  rcases h.2 with ⟨rfl, rfl⟩ | ⟨g, cap, cur, rfl, _⟩
  · exact ⟨_, _, rfl⟩
  · exact ⟨_, _, rfl⟩
theorem Grows.step {d B : Nat} {W3 : World} {sl v' : Value} {es : List El} {x : V} {l f : Value} {W2 : World} (h : Grows d W2 B sl es) (hx : Nice d x) (hrep : Rep (fun b => B < b ∧ sl.ownBlock ≠ some b) d W2 x l f)
    (hown : W3.ownsRow (B + 1) 40 5 v' (es.length + 1) (encEs es ++ [.int .i64 x.kind, .int .i64 x.num, .string x.text, l, f])) (hg : W2.grownBy W3 sl.ownBlock) (hv : sl.ownBlock = v'.ownBlock ∨ v'.ownBlock = some W2.heap.size) : Grows d W3 B v' (es ++ [⟨x, l, f⟩]) := by
  have hm : ∀ b, (B < b ∧ sl.ownBlock ≠ some b) → b < W2.heap.size → (B < b ∧ v'.ownBlock ≠ some b) ∧ W3.heap[b]? = W2.heap[b]? := by
    intro b h1 h2
    refine ⟨⟨h1.1, ?_⟩, hg.block b h2 (fun e => h1.2 e.symm)⟩
    rcases hv with e | e
    · rw [← e]; exact h1.2
    · rw [e]
      intro e2
      have := Option.some.inj e2
      omega
  refine ⟨?_, ?_, ?_⟩
  · rw [encEs_append, List.length_append]; exact hown
  · intro e he
    rcases List.mem_append.1 he with he | he
    · exact h.nice e he
    · rw [List.mem_singleton.1 he]; exact hx
  · intro e he
    rcases List.mem_append.1 he with he | he
    · exact (h.rep e he).move hm
    · rw [List.mem_singleton.1 he]; exact hrep.move hm

/-- Made, so deep. -/
def MakesAt (d : Nat) (D : Int) : Prop := ∀ (W : World) (s : Value) (bs : List UInt8), BytesAt W s bs → Tabs W → Calls Tryz.prog 37 #[s, .int .i64 D] W
  fun e w' => ∃ x l f r, e = .returned (.tuple #[.agg #[.int .i64 x.kind, .int .i64 x.num, .string x.text, l, f], r]) ∧ MadeV d W w' s bs x l f r

set_option maxRecDepth 100000 in
set_option maxHeartbeats 2000000 in
theorem Made_list (d : Nat) (D : Int) (hD : 1 < D) (hD2 : D ≤ 1000) (ih : MakesAt d (D - 1)) (u : UInt8) (bs : List UInt8) (a : Option Addr) (cap : Nat) (w : World) (hb : BytesAt w (.slice a (u :: bs).length cap) (u :: bs)) (hT : Tabs w) (hr : (u.toNat : Int) % 6 = 4) : Calls Tryz.prog 37 #[.slice a (u :: bs).length cap, .int .i64 D] w
    fun e w' => ∃ x l f r, e = .returned (.tuple #[.agg #[.int .i64 x.kind, .int .i64 x.num, .string x.text, l, f], r]) ∧ MadeV (d + 1) w w' (.slice a (u :: bs).length cap) (u :: bs) x l f r := by
  obtain ⟨b, o, rfl, c0, h1, h2, ht⟩ := hb.tail
  obtain ⟨A, hA⟩ : ∃ A : Option Addr, (if cap = 1 then some (⟨b, o, none⟩ : Addr) else some ⟨b, o + 1, none⟩) = A := ⟨_, rfl⟩
  have hlt := lt_of_cell c0
  have hu : u.toNat < 256 := u.toNat_lt
  obtain ⟨c, hc⟩ : ∃ c : Int, (u.toNat : Int) = c := ⟨_, rfl⟩
  rw [hc] at c0 hr
  have c1 : 0 ≤ c := by omega
  have c2 : c ≤ 255 := by omega
  have HT : Hid (Tl (.slice (some ⟨b, o, none⟩) (u :: bs).length cap) (u :: bs) (.slice A bs.length (cap - 1))) := ⟨bs, fun W hW => by obtain ⟨b', o', e, _, _, _, ht'⟩ := hW.tail; cases e; rw [hA] at ht'; exact ht'⟩
  have HB0 : Hid (BytesAt w (.slice (some ⟨b, o, none⟩) (u :: bs).length cap) (u :: bs)) := hb
  obtain ⟨m, hm⟩ : ∃ m : Nat, c / 6 % 4 = (m : Int) := ⟨(c / 6 % 4).toNat, by omega⟩
  have hm4 : m ≤ 3 := by omega
  simp only [List.length_cons]
  clear ht hb hu hc
  obtain ⟨i0, hi, hz0, hz1, hz2⟩ := info_parts infoV
  go_enter Tryz.func37, Tryz.ntmps37
  go_wp2
  go_loopg [0, 9, 10, 11] m (fun gg s0 i _ _ wr => ∃ (k : Nat) (es : List El) (sl : Value), k ≤ m ∧ m - k ≤ gg ∧ i = .int .i64 k ∧ es.length = k ∧ Aside (Tl (.slice (some ⟨b, o, none⟩) (u :: bs).length cap) (u :: bs) s0) ∧ Aside (Below w.heap.size w wr ∧ wr.heap[w.heap.size]? = some (.cells #[.int .i64 0, .int .i64 0, .string ⟨#[]⟩, .slice none 0 0, .slice none 0 0] 40 (0, 0)) ∧ wr.heap[w.heap.size + 1]? = some (.cells #[.int .i64 4, .int .i64 0, .string ⟨#[]⟩, sl, .slice none 0 0] 40 (0, 0)) ∧ Grows d wr (w.heap.size + 1) sl es))
  case atStart =>
    refine ⟨0, [], .slice none 0 0, Nat.zero_le _, by omega, rfl, rfl, HT.out, ((Below.refl _ _).alloc (Nat.le_refl _) _).alloc (by simp) _, heap_alloc2_old, heap_alloc2_new, ⟨World.ownsRow_nil _ _ _ _, fun e he => (by cases he), fun e he => (by cases he)⟩⟩
  case round =>
    obtain ⟨k, es, sl, hk, hgg, rfl, rfl, HB, R⟩ := hrel
    obtain ⟨hB, hrow0, hrow1, hG⟩ := R.out
    obtain ⟨al, cl, rfl⟩ := ownsRow_slice hG.own
    obtain ⟨bs', hbs'⟩ := HB.out
    have hbs1 := hbs' wr (HB0.out.below hB)
    by_cases hlt' : es.length < m
    · have zk : (es.length : Int) < (m : Int) := by omega
      have hcall := ih wr _ bs' hbs1 (hT.below hB)
      clear ih
      go_wp2_with fail
      refine hcall.mono ?_
      rintro e w1 ⟨x, l, f, r, rfl, hnx, hrx, hrb, hb1⟩
      obtain ⟨bl, dl, bf, df, rfl, rfl⟩ := hrx.slices
      have hrow1' := row_below hb1 hrow1
      have hrow0' := row_below hb1 hrow0
      obtain ⟨k0, k1, k2, k3, k4, kf⟩ := row5 hrow1'
      have hz1' : w.heap.size + 1 < w1.heap.size := lt_of_heap hrow1'
      have hG1 : Grows d w1 (w.heap.size + 1) (.slice al es.length cl) es := hG.move fun b _ hl => hb1.block b hl
      have hB1 : Below w.heap.size w w1 := hB.trans (hb1.mono hB.size)
      obtain ⟨O, hO⟩ : ∃ O, O = Obj.cells #[.int .i64 x.kind, .int .i64 x.num, .string x.text, .slice bl x.list.length dl, .slice bf x.fields.length df] 40 := ⟨_, rfl⟩
      have hG2 : Grows d ((w1.alloc O).alloc O) (w.heap.size + 1) (.slice al es.length cl) es := hG1.move fun b _ hl => by rw [Below.heap_alloc _ _ b (by simp; omega), Below.heap_alloc _ _ b hl]
      have hnews : Aside (∀ j u, [Value.int .i64 x.kind, .int .i64 x.num, .string x.text, .slice bl x.list.length dl, .slice bf x.fields.length df][j]? = some u → ((w1.alloc O).alloc O).cell? ((⟨w1.heap.size + 1, 0, none⟩ : Addr).add j) = some u) := by
        have h : ((w1.alloc O).alloc O).heap[w1.heap.size + 1]? = some O := heap_alloc2_new
        rw [hO] at h ⊢
        exact World.news_of_block h
      have hone : Aside (∀ v ∈ [Value.int .i64 x.kind, .int .i64 x.num, .string x.text, .slice bl x.list.length dl, .slice bf x.fields.length df], v.oneCell' = true) := by
        intro v hv
        simp only [List.mem_cons, List.not_mem_nil, or_false] at hv
        rcases hv with rfl | rfl | rfl | rfl | rfl <;> rfl
      have hown := (show Aside _ from hG2.own)
      have hszz : w1.heap.size + 1 + 1 = ((w1.alloc O).alloc O).heap.size := by simp
      have hR3 : Aside (∀ w3, ((w1.alloc O).alloc O).grownBy w3 (Value.slice al es.length cl).ownBlock → w3.heap[w.heap.size + 1]? = some (.cells #[.int .i64 4, .int .i64 0, .string ⟨#[]⟩, .slice al es.length cl, .slice none 0 0] 40 (0, 0)) ∧ w3.heap[w.heap.size]? = some (.cells #[.int .i64 0, .int .i64 0, .string ⟨#[]⟩, .slice none 0 0, .slice none 0 0] 40 (0, 0))) := by
        intro w3 hgr
        have hne : ∀ b, b < w.heap.size + 1 + 1 → some b ≠ (Value.slice al es.length cl).ownBlock := fun b hb e => by
          have := (hG2.own.lt b e.symm).1
          omega
        have hl0 := lt_of_heap hrow0'
        refine ⟨(hgr.block _ (by simp; omega) (hne _ (by omega))).trans ?_, (hgr.block _ (by simp; omega) (hne _ (by omega))).trans ?_⟩
        · rw [Below.heap_alloc _ _ _ (by simp; omega), Below.heap_alloc _ _ _ (by omega)]; exact hrow1'
        · rw [Below.heap_alloc _ _ _ (by simp; omega), Below.heap_alloc _ _ _ (by omega)]; exact hrow0'
      rw [hO] at hown hnews hszz hR3
      have S := (show Aside _ from And.intro hnx (And.intro hrx (And.intro hrb (And.intro hrow0' (And.intro hrow1' (And.intro hG2 (And.intro hB1 (And.intro (lt_of_heap hrow1) (And.intro hb1 (And.intro hO (And.intro (fun k e => (hG.own.lt k e).2) hbs')))))))))))
      have hsb : w.heap.size + 1 + 1 ≤ w1.heap.size := hz1'
      clear hcall hnx hrx hrb hrow0' hrow1' hG1 hG2 hB1 hb1 hB hrow0 hrow1 hG R HB hO hbs' hbs1
      go_wp2_with (first | (at_builtin; refine wpList_append_lies _ rfl (.tmp 78) (.tmp 80) 37 rfl (w.heap.size + 1 + 1) 40 i0 _ 5 80 Tryz.underlying37 hi hz0 hz1 hz2 rfl (by decide) _ es.length (encEs es) rfl hown.out ⟨w1.heap.size + 1, 0, none⟩ 1 1 [.int .i64 x.kind, .int .i64 x.num, .string x.text, .slice bl x.list.length dl, .slice bf x.fields.length df] rfl rfl hnews.out hone.out (by omega) (by unfold maxLen; omega) (by omega) (by simp; omega) _ rfl ?_; intro g cap' w3 hown3 hgrow3 hlie hlt3; have r3 := (hR3.out w3 hgrow3).1; obtain ⟨m0, m1, m2, m3, m4, mf⟩ := row5 r3; have zz3 : w.heap.size + 1 < w3.heap.size := lt_of_heap r3; have Y := (show Aside _ from And.intro hown3 (And.intro hgrow3 (And.intro hlie r3))); clear hown3 hgrow3 hlie r3))
      go_roundg (m - (es.length + 1))
      case measure => omega
      case rel =>
        obtain ⟨hnx, hrx, hrb, hrow0', hrow1', hG2, hB1, hl1, hb1, hO, hlw, hbs'⟩ := S.out
        obtain ⟨hown3, hgrow3, hlie, r3⟩ := Y.out
        rw [← hO] at hgrow3 hR3
        have q3 := (hR3.out w3 hgrow3).2
        have hB3 : Below w.heap.size w w3 := (((hB1.alloc (by omega) O).alloc (by simp; omega) O).grown hgrow3 (by simp; omega) (fun k e => by have := (hG2.own.lt k e).1; omega))
        have hrx2 : Rep (fun b => w.heap.size + 1 < b ∧ (Value.slice al es.length cl).ownBlock ≠ some b) d ((w1.alloc O).alloc O) x (.slice bl x.list.length dl) (.slice bf x.fields.length df) := hrx.move fun b hb hl => by
          refine ⟨⟨by omega, fun e => ?_⟩, by rw [Below.heap_alloc _ _ b (by simp; omega), Below.heap_alloc _ _ b hl]⟩
          have := hlw b e
          omega
        have hG3 : Grows d w3 (w.heap.size + 1) (.slice (some ⟨g, 0, none⟩) (es.length + 1) cap') (es ++ [⟨x, .slice bl x.list.length dl, .slice bf x.fields.length df⟩]) := by
          refine hG2.step hnx hrx2 hown3 hgrow3 ?_
          rcases hlie with e | e
          · exact .inl e
          · right; show some g = _; rw [e]; simp
        have hne : ∀ b, w.heap.size + 1 < b → (w3.setCell ⟨w.heap.size + 1, 3, none⟩ (.slice (some ⟨g, 0, none⟩) (es.length + 1) cap')).heap[b]? = w3.heap[b]? := fun b hb => heap_setCell_ne _ _ _ (by simp; omega)
        refine ⟨es.length + 1, es ++ [⟨x, .slice bl x.list.length dl, .slice bf x.fields.length df⟩], .slice (some ⟨g, 0, none⟩) (es.length + 1) cap', by omega, by omega, by go_num, by simp, ?_, hB3.setCell (by simp) _, ?_, ?_, hG3.move fun b hb _ => hne b hb⟩
        · obtain ⟨bs2, h2⟩ := hrb
          exact ⟨bs2, fun W hW => h2 W (hbs' W hW)⟩
        · rw [heap_setCell_ne _ _ _ (by simp)]; exact q3
        · exact setCell_row r3 (i := 3) _
    · have zk : ¬ (es.length : Int) < (m : Int) := by omega
      obtain ⟨k0, k1, k2, k3, k4, kf⟩ := row5 hrow1
      obtain ⟨j0, j1, j2, j3, j4, jf⟩ := row5 hrow0
      have hz1' : w.heap.size + 1 < wr.heap.size := lt_of_heap hrow1
      have S := (show Aside _ from And.intro hB hG)
      clear ih hB hrow0 hrow1 hG R hbs' hbs1
      go_wp2
      refine bodyPost_ret (v := .tuple #[.agg #[.int .i64 4, .int .i64 0, .string ⟨#[]⟩, .slice al es.length cl, .slice none 0 0], _]) (by simp [results, Tryz.results37, go_sem, j0, j1, j2, j3, j4]) rfl ⟨⟨4, 0, ⟨#[]⟩, es.map El.v, []⟩, _, _, _, rfl, ?_, ?_, HB.out, ?_⟩
      · obtain ⟨hB, hG⟩ := S.out
        refine ⟨show (0 : Int) ≤ 4 by decide, show (4 : Int) ≤ 5 by decide, ⟨show (-9223372036854775808 : Int) ≤ 0 by decide, show (0 : Int) ≤ 9223372036854775807 by decide⟩, show Wd 4 0 ⟨#[]⟩ from Wd.no _ _ (by decide), by simp; omega, by simp, trivial, fun y hy => ?_, fun p hp => by cases hp⟩
        obtain ⟨e, he, rfl⟩ := List.mem_map.1 hy
        exact hG.nice e he
      · obtain ⟨hB, hG⟩ := S.out
        have hne : ∀ b, w.heap.size < b → (set5W wr w.heap.size 0 1 2 3 4 (.int .i64 4) (.int .i64 0) (.string ⟨#[]⟩) (.slice al es.length cl) (.slice none 0 0)).heap[b]? = wr.heap[b]? := fun b hb => set5W_ne _ _ _ _ _ _ _ _ _ _ _ _ (by omega)
        have hG' := hG.move (W' := set5W wr w.heap.size 0 1 2 3 4 (.int .i64 4) (.int .i64 0) (.string ⟨#[]⟩) (.slice al es.length cl) (.slice none 0 0)) fun b hb _ => hne b (by omega)
        exact ⟨⟨es, rfl, ⟨ownsRow_move (fun b _ _ => ⟨Nat.zero_le _, rfl⟩) hG'.own, by omega, fun b hb => by have := (hG'.own.lt b hb).1; show w.heap.size ≤ b; omega⟩, fun e he => (hG'.rep e he).move fun b hb _ => ⟨by omega, rfl⟩⟩, ⟨[], rfl, RowAt.nil, fun e he => by cases he⟩⟩
      · exact set5W_below S.out.1 (Nat.le_refl _) 0 1 2 3 4 _ _ _ _ _
end Go.Proofs.YtfpkkobclkdniaaGreatDoor
