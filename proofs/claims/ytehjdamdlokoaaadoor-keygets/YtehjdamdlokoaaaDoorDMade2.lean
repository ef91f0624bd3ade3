/-
  The law's Made by its contract, which value it makes: plain, and but for lists and objects. No conditions beyond those stated.
-/
import Derived.Test.YtehjdamdlokoaaaDoorVMade2
namespace Go.Proofs.YtehjdamdlokoaaaDoor
open Go.RowKit

/-- a number by a byte. -/
def onesP (q : Int) : Int := if q % 8 = 0 then -9223372036854775808 else if q % 8 = 1 then 9223372036854775807 else if q % 8 = 2 then -q else q / 8 % 6
/-- things made one behind the other. -/
def listS (f : List UInt8 → V × List UInt8) : Nat → List UInt8 → List V × List UInt8
  | 0, l => ([], l)
  | k + 1, l => ((listS f k l).1 ++ [(f (listS f k l).2).1], (f (listS f k l).2).2)
def fldS (f : List UInt8 → V × List UInt8) (on : Nat → Bool) : Nat → List UInt8 → List (ByteArray × V) × List UInt8
  | 0, l => ([], l)
  | k + 1, l => if on k = true then ((fldS f on k l).1 ++ [(nameAt k, (f (fldS f on k l).2).1)], (f (fldS f on k l).2).2) else fldS f on k l
def onP (c : Int) (k : Nat) : Bool := (c / 6 / 2 ^ k).tmod 2 == 1
def baseP (c : Int) (bs : List UInt8) : V × List UInt8 :=
  if c % 6 = 1 then (⟨1, c / 6 % 2, ⟨#[]⟩, [], []⟩, bs)
  else if c % 6 = 2 then (⟨2, onesP (c / 6), ⟨#[]⟩, [], []⟩, bs)
  else if c % 6 = 3 then (⟨3, 0, wordAt (c / 6 % 8).toNat, [], []⟩, bs)
  else (⟨0, 0, ⟨#[]⟩, [], []⟩, bs)
/-- the value that bytes begin with, and what is left of them. -/
def madeP : Nat → List UInt8 → V × List UInt8
  | _, [] => (⟨0, 0, ⟨#[]⟩, [], []⟩, [])
  | 0, u :: bs => baseP (u.toNat : Int) bs
  | d + 1, u :: bs =>
    if (u.toNat : Int) % 6 = 4 then (⟨4, 0, ⟨#[]⟩, (listS (madeP d) ((u.toNat : Int) / 6 % 4).toNat bs).1, []⟩, (listS (madeP d) ((u.toNat : Int) / 6 % 4).toNat bs).2)
    else if (u.toNat : Int) % 6 = 5 then (⟨5, 0, ⟨#[]⟩, [], (fldS (madeP d) (onP (u.toNat : Int)) 4 bs).1⟩, (fldS (madeP d) (onP (u.toNat : Int)) 4 bs).2)
    else baseP (u.toNat : Int) bs
theorem fldS_on {f : List UInt8 → V × List UInt8} {on : Nat → Bool} {k : Nat} (h : on k = true) (l : List UInt8) : fldS f on (k + 1) l = ((fldS f on k l).1 ++ [(nameAt k, (f (fldS f on k l).2).1)], (f (fldS f on k l).2).2) := by
  show (if on k = true then _ else _) = _
  rw [if_pos h]
theorem fldS_off {f : List UInt8 → V × List UInt8} {on : Nat → Bool} {k : Nat} (h : on k = false) (l : List UInt8) : fldS f on (k + 1) l = fldS f on k l := by
  show (if on k = true then _ else _) = _
  rw [if_neg (by rw [h]; decide)]
theorem made_nil (d : Nat) : madeP d [] = (⟨0, 0, ⟨#[]⟩, [], []⟩, []) := by cases d <;> rfl
theorem made_base (d : Nat) (u : UInt8) (bs : List UInt8) (h : d = 0 ∨ ((u.toNat : Int) % 6 ≠ 4 ∧ (u.toNat : Int) % 6 ≠ 5)) : madeP d (u :: bs) = baseP (u.toNat : Int) bs := by
  cases d with
  | zero => rfl
  | succ d =>
    obtain ⟨h4, h5⟩ := h.resolve_left (by omega)
    show (if _ then _ else if _ then _ else _) = _
    rw [if_neg h4, if_neg h5]
/-- wherever the one slice of bytes lies, the other one does. -/
def PTl (s : Value) (bs : List UInt8) (r : Value) (bs' : List UInt8) : Prop := ∀ W, BytesAt W s bs → BytesAt W r bs'
/-- what Made answers: a value, where it lies, and what is left of the bytes. -/
def PMadeV (d : Nat) (w w' : World) (s : Value) (bs : List UInt8) (x : V) (l f r : Value) : Prop := Nice d x ∧ Rep (fun k => w.heap.size ≤ k) d w' x l f ∧ (PTl s bs r (madeP d bs).2 ∧ x = (madeP d bs).1) ∧ Below w.heap.size w w'

set_option maxHeartbeats 1000000 in
theorem one_is (q : Int) (h0 : 0 ≤ q) (h1 : q ≤ 42) (w : World) : Calls Tryd.prog 30 #[.int .u8 q] w fun e w' => e = .returned (.int .i64 (onesP q)) ∧ w' = w := by
  by_cases e0 : q % 8 = 0
  · go_enter Tryd.func30, Tryd.ntmps30
    go_wp2
    go_ret
    exact ⟨by simp [onesP, e0], rfl⟩
  by_cases e1 : q % 8 = 1
  · go_enter Tryd.func30, Tryd.ntmps30
    go_wp2
    go_ret
    exact ⟨by simp [onesP, e1], rfl⟩
  by_cases e2 : q % 8 = 2
  · go_enter Tryd.func30, Tryd.ntmps30
    go_wp2
    go_ret
    exact ⟨by simp [onesP, e2], rfl⟩
  have f0 : (q % 8 == 0) = false := by simpa using e0
  have f1 : (q % 8 == 1) = false := by simpa using e1
  have f2 : (q % 8 == 2) = false := by simpa using e2
  go_enter Tryd.func30, Tryd.ntmps30
  go_wp2
  go_ret
  exact ⟨by simp [onesP, e0, e1, e2], rfl⟩
theorem onesP_I64 (q : Int) (h0 : 0 ≤ q) (h1 : q ≤ 42) : I64 (onesP q) := by
  unfold onesP
  constructor <;> (repeat' split) <;> omega
set_option maxHeartbeats 1000000 in
theorem PMade_empty (d : Nat) (deep : Int) (a : Option Addr) (cap : Nat) (w : World) : Calls Tryd.prog 20 #[.slice a 0 cap, .int .i64 deep] w
    fun e w' => ∃ x l f r, e = .returned (.tuple #[.agg #[.int .i64 x.kind, .int .i64 x.num, .string x.text, l, f], r]) ∧ PMadeV d w w' (.slice a 0 cap) [] x l f r := by
  go_enter Tryd.func20, Tryd.ntmps20
  go_wp2
  refine bodyPost_ret (v := .tuple #[.agg #[.int .i64 0, .int .i64 0, .string ⟨#[]⟩, .slice none 0 0, .slice none 0 0], .slice none 0 0]) (by simp [results, Tryd.results20, go_sem]) rfl ⟨⟨0, 0, ⟨#[]⟩, [], []⟩, _, _, _, rfl, Nice.of d _ _ _ (by decide) (by decide) ⟨by decide, by decide⟩ (Wd.no _ _ (by decide)), Rep.le (n := 0) ⟨rfl, rfl, rfl, rfl⟩ (Nat.zero_le _), ⟨by rw [made_nil]; exact fun _ _ => ⟨none, 0, rfl, by simp, by omega, fun h => absurd rfl h⟩, by rw [made_nil]⟩, (Below.refl _ _).alloc (Nat.le_refl _) _⟩

set_option maxHeartbeats 1000000 in
theorem PMade_bool (d : Nat) (deep : Int) (u : UInt8) (bs : List UInt8) (a : Option Addr) (cap : Nat) (w : World) (hb : BytesAt w (.slice a (u :: bs).length cap) (u :: bs)) (hr : (u.toNat : Int) % 6 = 1) : Calls Tryd.prog 20 #[.slice a (u :: bs).length cap, .int .i64 deep] w
    fun e w' => ∃ x l f r, e = .returned (.tuple #[.agg #[.int .i64 x.kind, .int .i64 x.num, .string x.text, l, f], r]) ∧ PMadeV d w w' (.slice a (u :: bs).length cap) (u :: bs) x l f r := by
  obtain ⟨b, o, rfl, c0, h1, h2, ht⟩ := hb.tail
  obtain ⟨A, hA⟩ : ∃ A : Option Addr, (if cap = 1 then some (⟨b, o, none⟩ : Addr) else some ⟨b, o + 1, none⟩) = A := ⟨_, rfl⟩
  have hlt := lt_of_cell c0
  have hu : u.toNat < 256 := u.toNat_lt
  obtain ⟨c, hc⟩ : ∃ c : Int, (u.toNat : Int) = c := ⟨_, rfl⟩
  have hpl : madeP d (u :: bs) = (⟨1, c / 6 % 2, ⟨#[]⟩, [], []⟩, bs) := by
    rw [made_base d u bs (.inr ⟨by omega, by omega⟩), hc]
    rw [hc] at hr
    simp [baseP, hr]
  have HP := (show Hid _ from hpl)
  rw [hc] at c0 hr
  have c1 : 0 ≤ c := by omega
  have c2 : c ≤ 255 := by omega
  have HT : Hid (PTl (.slice (some ⟨b, o, none⟩) (u :: bs).length cap) (u :: bs) (.slice A bs.length (cap - 1)) bs) := fun W hW => by obtain ⟨b', o', e, _, _, _, ht'⟩ := hW.tail; cases e; rw [hA] at ht'; exact ht'
  simp only [List.length_cons]
  clear ht hb hu hc hpl
  go_enter Tryd.func20, Tryd.ntmps20
  go_wp2
  refine bodyPost_ret (v := .tuple #[.agg #[.int .i64 1, .int .i64 (c / 6 % 2), .string ⟨#[]⟩, .slice none 0 0, .slice none 0 0], .slice A bs.length (cap - 1)]) (by simp [results, Tryd.results20, go_sem]) rfl ⟨⟨1, c / 6 % 2, ⟨#[]⟩, [], []⟩, _, _, _, rfl, Nice.of d _ _ _ (by decide) (by decide) ⟨by omega, by omega⟩ ⟨⟨0, rfl⟩, fun _ => by omega⟩, Rep.le (n := 0) ⟨rfl, rfl, rfl, rfl⟩ (Nat.zero_le _), ⟨by rw [HP.out]; exact HT.out, by rw [HP.out]⟩, (Below.refl _ _).alloc (Nat.le_refl _) _⟩

set_option maxHeartbeats 1000000 in
theorem PMade_int (d : Nat) (deep : Int) (u : UInt8) (bs : List UInt8) (a : Option Addr) (cap : Nat) (w : World) (hb : BytesAt w (.slice a (u :: bs).length cap) (u :: bs)) (hr : (u.toNat : Int) % 6 = 2) : Calls Tryd.prog 20 #[.slice a (u :: bs).length cap, .int .i64 deep] w
    fun e w' => ∃ x l f r, e = .returned (.tuple #[.agg #[.int .i64 x.kind, .int .i64 x.num, .string x.text, l, f], r]) ∧ PMadeV d w w' (.slice a (u :: bs).length cap) (u :: bs) x l f r := by
  obtain ⟨b, o, rfl, c0, h1, h2, ht⟩ := hb.tail
  obtain ⟨A, hA⟩ : ∃ A : Option Addr, (if cap = 1 then some (⟨b, o, none⟩ : Addr) else some ⟨b, o + 1, none⟩) = A := ⟨_, rfl⟩
  have hlt := lt_of_cell c0
  have hu : u.toNat < 256 := u.toNat_lt
  obtain ⟨c, hc⟩ : ∃ c : Int, (u.toNat : Int) = c := ⟨_, rfl⟩
  have hpl : madeP d (u :: bs) = (⟨2, onesP (c / 6), ⟨#[]⟩, [], []⟩, bs) := by
    rw [made_base d u bs (.inr ⟨by omega, by omega⟩), hc]
    rw [hc] at hr
    simp [baseP, hr]
  have HP := (show Hid _ from hpl)
  rw [hc] at c0 hr
  have c1 : 0 ≤ c := by omega
  have c2 : c ≤ 255 := by omega
  have HT : Hid (PTl (.slice (some ⟨b, o, none⟩) (u :: bs).length cap) (u :: bs) (.slice A bs.length (cap - 1)) bs) := fun W hW => by obtain ⟨b', o', e, _, _, _, ht'⟩ := hW.tail; cases e; rw [hA] at ht'; exact ht'
  simp only [List.length_cons]
  clear ht hb hu hc hpl
  go_enter Tryd.func20, Tryd.ntmps20
  go_wp2_with fail
  refine (one_is (c / 6) (by omega) (by omega) _).mono ?_
  rintro e w' ⟨rfl, rfl⟩
  have hm : I64 (onesP (c / 6)) := onesP_I64 _ (by omega) (by omega)
  generalize hmm : onesP (c / 6) = m at hm HP ⊢
  go_wp2
  refine bodyPost_ret (v := .tuple #[.agg #[.int .i64 2, .int .i64 m, .string ⟨#[]⟩, .slice none 0 0, .slice none 0 0], .slice A bs.length (cap - 1)]) (by simp [results, Tryd.results20, go_sem]) rfl ⟨⟨2, m, ⟨#[]⟩, [], []⟩, _, _, _, rfl, Nice.of d _ _ _ (by decide) (by decide) hm (Wd.no _ _ (by decide)), Rep.le (n := 0) ⟨rfl, rfl, rfl, rfl⟩ (Nat.zero_le _), ⟨by rw [HP.out]; exact HT.out, by rw [HP.out]⟩, (Below.refl _ _).alloc (Nat.le_refl _) _⟩

set_option maxHeartbeats 1000000 in
theorem PMade_text (d : Nat) (deep : Int) (u : UInt8) (bs : List UInt8) (a : Option Addr) (cap : Nat) (w : World) (hb : BytesAt w (.slice a (u :: bs).length cap) (u :: bs)) (hT : Tabs w) (hr : (u.toNat : Int) % 6 = 3) : Calls Tryd.prog 20 #[.slice a (u :: bs).length cap, .int .i64 deep] w
    fun e w' => ∃ x l f r, e = .returned (.tuple #[.agg #[.int .i64 x.kind, .int .i64 x.num, .string x.text, l, f], r]) ∧ PMadeV d w w' (.slice a (u :: bs).length cap) (u :: bs) x l f r := by
  obtain ⟨b, o, rfl, c0, h1, h2, ht⟩ := hb.tail
  obtain ⟨A, hA⟩ : ∃ A : Option Addr, (if cap = 1 then some (⟨b, o, none⟩ : Addr) else some ⟨b, o + 1, none⟩) = A := ⟨_, rfl⟩
  have hlt := lt_of_cell c0
  have hu : u.toNat < 256 := u.toNat_lt
  obtain ⟨c, hc⟩ : ∃ c : Int, (u.toNat : Int) = c := ⟨_, rfl⟩
  have hpl : madeP d (u :: bs) = (⟨3, 0, wordAt (c / 6 % 8).toNat, [], []⟩, bs) := by
    rw [made_base d u bs (.inr ⟨by omega, by omega⟩), hc]
    rw [hc] at hr
    simp [baseP, hr]
  have HP := (show Hid _ from hpl)
  rw [hc] at c0 hr
  have c1 : 0 ≤ c := by omega
  have c2 : c ≤ 255 := by omega
  have HT : Hid (PTl (.slice (some ⟨b, o, none⟩) (u :: bs).length cap) (u :: bs) (.slice A bs.length (cap - 1)) bs) := fun W hW => by obtain ⟨b', o', e, _, _, _, ht'⟩ := hW.tail; cases e; rw [hA] at ht'; exact ht'
  simp only [List.length_cons]
  clear ht hb hu hc hpl
  obtain ⟨m, hm⟩ : ∃ m : Nat, c / 6 % 8 = (m : Int) := ⟨(c / 6 % 8).toNat, by omega⟩
  have hm8 : m < 8 := by omega
  rw [show (c / 6 % 8).toNat = m by omega] at HP
  have cw := hT.words m hm8
  have hlw := lt_of_cell cw
  have zm : (m : Int) < 8 := by omega
  go_enter Tryd.func20, Tryd.ntmps20
  go_wp2
  refine bodyPost_ret (v := .tuple #[.agg #[.int .i64 3, .int .i64 0, .string (wordAt m), .slice none 0 0, .slice none 0 0], .slice A bs.length (cap - 1)]) (by simp [results, Tryd.results20, go_sem]) rfl ⟨⟨3, 0, wordAt m, [], []⟩, _, _, _, rfl, Nice.of d _ _ _ (by decide) (by decide) ⟨by decide, by decide⟩ ⟨⟨m, rfl⟩, fun e => absurd e (by decide)⟩, Rep.le (n := 0) ⟨rfl, rfl, rfl, rfl⟩ (Nat.zero_le _), ⟨by rw [HP.out]; exact HT.out, by rw [HP.out]⟩, (Below.refl _ _).alloc (Nat.le_refl _) _⟩

set_option maxHeartbeats 1000000 in
theorem PMade_zero (d : Nat) (deep : Int) (u : UInt8) (bs : List UInt8) (a : Option Addr) (cap : Nat) (w : World) (hb : BytesAt w (.slice a (u :: bs).length cap) (u :: bs)) (hr : (u.toNat : Int) % 6 = 0) : Calls Tryd.prog 20 #[.slice a (u :: bs).length cap, .int .i64 deep] w
    fun e w' => ∃ x l f r, e = .returned (.tuple #[.agg #[.int .i64 x.kind, .int .i64 x.num, .string x.text, l, f], r]) ∧ PMadeV d w w' (.slice a (u :: bs).length cap) (u :: bs) x l f r := by
  obtain ⟨b, o, rfl, c0, h1, h2, ht⟩ := hb.tail
  obtain ⟨A, hA⟩ : ∃ A : Option Addr, (if cap = 1 then some (⟨b, o, none⟩ : Addr) else some ⟨b, o + 1, none⟩) = A := ⟨_, rfl⟩
  have hlt := lt_of_cell c0
  have hu : u.toNat < 256 := u.toNat_lt
  obtain ⟨c, hc⟩ : ∃ c : Int, (u.toNat : Int) = c := ⟨_, rfl⟩
  have hpl : madeP d (u :: bs) = (⟨0, 0, ⟨#[]⟩, [], []⟩, bs) := by
    rw [made_base d u bs (.inr ⟨by omega, by omega⟩), hc]
    rw [hc] at hr
    simp [baseP, hr]
  have HP := (show Hid _ from hpl)
  rw [hc] at c0 hr
  have c1 : 0 ≤ c := by omega
  have c2 : c ≤ 255 := by omega
  have HT : Hid (PTl (.slice (some ⟨b, o, none⟩) (u :: bs).length cap) (u :: bs) (.slice A bs.length (cap - 1)) bs) := fun W hW => by obtain ⟨b', o', e, _, _, _, ht'⟩ := hW.tail; cases e; rw [hA] at ht'; exact ht'
  simp only [List.length_cons]
  clear ht hb hu hc hpl
  go_enter Tryd.func20, Tryd.ntmps20
  go_wp2
  refine bodyPost_ret (v := .tuple #[.agg #[.int .i64 0, .int .i64 0, .string ⟨#[]⟩, .slice none 0 0, .slice none 0 0], .slice A bs.length (cap - 1)]) (by simp [results, Tryd.results20, go_sem]) rfl ⟨⟨0, 0, ⟨#[]⟩, [], []⟩, _, _, _, rfl, Nice.of d _ _ _ (by decide) (by decide) ⟨by decide, by decide⟩ (Wd.no _ _ (by decide)), Rep.le (n := 0) ⟨rfl, rfl, rfl, rfl⟩ (Nat.zero_le _), ⟨by rw [HP.out]; exact HT.out, by rw [HP.out]⟩, (Below.refl _ _).alloc (Nat.le_refl _) _⟩

set_option maxHeartbeats 1000000 in
theorem PMade_four (deep : Int) (u : UInt8) (bs : List UInt8) (a : Option Addr) (cap : Nat) (w : World) (hb : BytesAt w (.slice a (u :: bs).length cap) (u :: bs)) (hd : deep ≤ 1) (hr : (u.toNat : Int) % 6 = 4) : Calls Tryd.prog 20 #[.slice a (u :: bs).length cap, .int .i64 deep] w
    fun e w' => ∃ x l f r, e = .returned (.tuple #[.agg #[.int .i64 x.kind, .int .i64 x.num, .string x.text, l, f], r]) ∧ PMadeV 0 w w' (.slice a (u :: bs).length cap) (u :: bs) x l f r := by
  obtain ⟨b, o, rfl, c0, h1, h2, ht⟩ := hb.tail
  obtain ⟨A, hA⟩ : ∃ A : Option Addr, (if cap = 1 then some (⟨b, o, none⟩ : Addr) else some ⟨b, o + 1, none⟩) = A := ⟨_, rfl⟩
  have hlt := lt_of_cell c0
  have hu : u.toNat < 256 := u.toNat_lt
  obtain ⟨c, hc⟩ : ∃ c : Int, (u.toNat : Int) = c := ⟨_, rfl⟩
  have hpl : madeP 0 (u :: bs) = (⟨0, 0, ⟨#[]⟩, [], []⟩, bs) := by
    rw [made_base 0 u bs (.inl rfl), hc]
    rw [hc] at hr
    simp [baseP, hr]
  have HP := (show Hid _ from hpl)
  rw [hc] at c0 hr
  have c1 : 0 ≤ c := by omega
  have c2 : c ≤ 255 := by omega
  have HT : Hid (PTl (.slice (some ⟨b, o, none⟩) (u :: bs).length cap) (u :: bs) (.slice A bs.length (cap - 1)) bs) := fun W hW => by obtain ⟨b', o', e, _, _, _, ht'⟩ := hW.tail; cases e; rw [hA] at ht'; exact ht'
  simp only [List.length_cons]
  clear ht hb hu hc hpl
  have hd1 : ¬ 1 < deep := by omega
  go_enter Tryd.func20, Tryd.ntmps20
  go_wp2
  refine bodyPost_ret (v := .tuple #[.agg #[.int .i64 0, .int .i64 0, .string ⟨#[]⟩, .slice none 0 0, .slice none 0 0], .slice A bs.length (cap - 1)]) (by simp [results, Tryd.results20, go_sem]) rfl ⟨⟨0, 0, ⟨#[]⟩, [], []⟩, _, _, _, rfl, Nice.of 0 _ _ _ (by decide) (by decide) ⟨by decide, by decide⟩ (Wd.no _ _ (by decide)), Rep.le (n := 0) ⟨rfl, rfl, rfl, rfl⟩ (Nat.zero_le _), ⟨by rw [HP.out]; exact HT.out, by rw [HP.out]⟩, (Below.refl _ _).alloc (Nat.le_refl _) _⟩

set_option maxHeartbeats 1000000 in
theorem PMade_five (deep : Int) (u : UInt8) (bs : List UInt8) (a : Option Addr) (cap : Nat) (w : World) (hb : BytesAt w (.slice a (u :: bs).length cap) (u :: bs)) (hd : deep ≤ 1) (hr : (u.toNat : Int) % 6 = 5) : Calls Tryd.prog 20 #[.slice a (u :: bs).length cap, .int .i64 deep] w
    fun e w' => ∃ x l f r, e = .returned (.tuple #[.agg #[.int .i64 x.kind, .int .i64 x.num, .string x.text, l, f], r]) ∧ PMadeV 0 w w' (.slice a (u :: bs).length cap) (u :: bs) x l f r := by
  obtain ⟨b, o, rfl, c0, h1, h2, ht⟩ := hb.tail
  obtain ⟨A, hA⟩ : ∃ A : Option Addr, (if cap = 1 then some (⟨b, o, none⟩ : Addr) else some ⟨b, o + 1, none⟩) = A := ⟨_, rfl⟩
  have hlt := lt_of_cell c0
  have hu : u.toNat < 256 := u.toNat_lt
  obtain ⟨c, hc⟩ : ∃ c : Int, (u.toNat : Int) = c := ⟨_, rfl⟩
  have hpl : madeP 0 (u :: bs) = (⟨0, 0, ⟨#[]⟩, [], []⟩, bs) := by
    rw [made_base 0 u bs (.inl rfl), hc]
    rw [hc] at hr
    simp [baseP, hr]
  have HP := (show Hid _ from hpl)
  rw [hc] at c0 hr
  have c1 : 0 ≤ c := by omega
  have c2 : c ≤ 255 := by omega
  have HT : Hid (PTl (.slice (some ⟨b, o, none⟩) (u :: bs).length cap) (u :: bs) (.slice A bs.length (cap - 1)) bs) := fun W hW => by obtain ⟨b', o', e, _, _, _, ht'⟩ := hW.tail; cases e; rw [hA] at ht'; exact ht'
  simp only [List.length_cons]
  clear ht hb hu hc hpl
  have hd1 : ¬ 1 < deep := by omega
  go_enter Tryd.func20, Tryd.ntmps20
  go_wp2
  refine bodyPost_ret (v := .tuple #[.agg #[.int .i64 0, .int .i64 0, .string ⟨#[]⟩, .slice none 0 0, .slice none 0 0], .slice A bs.length (cap - 1)]) (by simp [results, Tryd.results20, go_sem]) rfl ⟨⟨0, 0, ⟨#[]⟩, [], []⟩, _, _, _, rfl, Nice.of 0 _ _ _ (by decide) (by decide) ⟨by decide, by decide⟩ (Wd.no _ _ (by decide)), Rep.le (n := 0) ⟨rfl, rfl, rfl, rfl⟩ (Nat.zero_le _), ⟨by rw [HP.out]; exact HT.out, by rw [HP.out]⟩, (Below.refl _ _).alloc (Nat.le_refl _) _⟩

end Go.Proofs.YtehjdamdlokoaaaDoor
