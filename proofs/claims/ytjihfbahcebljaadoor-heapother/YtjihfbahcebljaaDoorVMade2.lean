/-
  The law's Made by its contract, but for lists and objects. No conditions beyond those stated.
-/
import Derived.Test.YtjihfbahcebljaaDoorVMade1
namespace Go.Proofs.YtjihfbahcebljaaDoor
open Go.RowKit

/-- wherever the one slice of bytes lies, the other one does. -/
def Tl (s : Value) (bs : List UInt8) (r : Value) : Prop := ∃ bs', ∀ W, BytesAt W s bs → BytesAt W r bs'
/-- what Made answers: a value, where it lies, and what is left of the bytes. -/
def MadeV (d : Nat) (w w' : World) (s : Value) (bs : List UInt8) (x : V) (l f r : Value) : Prop := Nice d x ∧ Rep (fun k => w.heap.size ≤ k) d w' x l f ∧ Tl s bs r ∧ Below w.heap.size w w'

theorem BytesAt.tail {W : World} {a : Option Addr} {cap : Nat} {u : UInt8} {bs : List UInt8} (h : BytesAt W (.slice a (u :: bs).length cap) (u :: bs)) : ∃ b o, a = some ⟨b, o, none⟩ ∧ W.cell? ⟨b, o, none⟩ = some (.int .u8 u.toNat) ∧ bs.length + 1 ≤ cap ∧ cap ≤ 9223372036854775807 ∧
    BytesAt W (.slice (if cap = 1 then some ⟨b, o, none⟩ else some ⟨b, o + 1, none⟩) bs.length (cap - 1)) bs := by
  obtain ⟨a', cap', h1, h2, h3, h4⟩ := h
  simp only [Value.slice.injEq, true_and] at h1
  obtain ⟨rfl, rfl⟩ := h1
  obtain ⟨b, o, rfl, h6⟩ := h4 (by simp)
  refine ⟨b, o, rfl, by simpa using h6 0 u rfl, by simpa using h2, h3, _, _, rfl, by simp at h2; omega, by omega, fun hne => ?_⟩
  have : ¬ cap = 1 := by
    intro e
    have : bs.length ≠ 0 := fun h => hne (List.length_eq_zero_iff.1 h)
    simp at h2
    omega
  rw [if_neg this]
  refine ⟨b, o + 1, rfl, fun j v hj => ?_⟩
  have := h6 (j + 1) v (by simpa using hj)
  rw [Nat.add_assoc, Nat.add_comm 1 j]
  exact this

theorem Nice.of (d : Nat) (k m : Int) (t : ByteArray) (h1 : 0 ≤ k) (h2 : k ≤ 5) (h3 : I64 m) (h4 : Wd k m t) : Nice d ⟨k, m, t, [], []⟩ := Nice.plain d h1 h2 h3 h4 rfl rfl

set_option maxHeartbeats 1000000 in
theorem Made_empty (d : Nat) (deep : Int) (a : Option Addr) (cap : Nat) (w : World) : Calls Tryd.prog 24 #[.slice a 0 cap, .int .i64 deep] w
    fun e w' => ∃ x l f r, e = .returned (.tuple #[.agg #[.int .i64 x.kind, .int .i64 x.num, .string x.text, l, f], r]) ∧ MadeV d w w' (.slice a 0 cap) [] x l f r := by
  go_enter Tryd.func24, Tryd.ntmps24
  go_wp2
  refine bodyPost_ret (v := .tuple #[.agg #[.int .i64 0, .int .i64 0, .string ⟨#[]⟩, .slice none 0 0, .slice none 0 0], .slice none 0 0]) (by simp [results, Tryd.results24, go_sem]) rfl ⟨⟨0, 0, ⟨#[]⟩, [], []⟩, _, _, _, rfl, Nice.of d _ _ _ (by decide) (by decide) ⟨by decide, by decide⟩ (Wd.no _ _ (by decide)), Rep.le (n := 0) ⟨rfl, rfl, rfl, rfl⟩ (Nat.zero_le _), ⟨[], fun _ _ => ⟨none, 0, rfl, by simp, by omega, fun h => absurd rfl h⟩⟩, (Below.refl _ _).alloc (Nat.le_refl _) _⟩

set_option maxHeartbeats 1000000 in
theorem Made_bool (d : Nat) (deep : Int) (u : UInt8) (bs : List UInt8) (a : Option Addr) (cap : Nat) (w : World) (hb : BytesAt w (.slice a (u :: bs).length cap) (u :: bs)) (hr : (u.toNat : Int) % 6 = 1) : Calls Tryd.prog 24 #[.slice a (u :: bs).length cap, .int .i64 deep] w
    fun e w' => ∃ x l f r, e = .returned (.tuple #[.agg #[.int .i64 x.kind, .int .i64 x.num, .string x.text, l, f], r]) ∧ MadeV d w w' (.slice a (u :: bs).length cap) (u :: bs) x l f r := by
  obtain ⟨b, o, rfl, c0, h1, h2, ht⟩ := hb.tail
  obtain ⟨A, hA⟩ : ∃ A : Option Addr, (if cap = 1 then some (⟨b, o, none⟩ : Addr) else some ⟨b, o + 1, none⟩) = A := ⟨_, rfl⟩
  have hlt := lt_of_cell c0
  have hu : u.toNat < 256 := u.toNat_lt
  obtain ⟨c, hc⟩ : ∃ c : Int, (u.toNat : Int) = c := ⟨_, rfl⟩
  rw [hc] at c0 hr
  have c1 : 0 ≤ c := by omega
  have c2 : c ≤ 255 := by omega
  have HT : Hid (Tl (.slice (some ⟨b, o, none⟩) (u :: bs).length cap) (u :: bs) (.slice A bs.length (cap - 1))) := ⟨bs, fun W hW => by obtain ⟨b', o', e, _, _, _, ht'⟩ := hW.tail; cases e; rw [hA] at ht'; exact ht'⟩
  simp only [List.length_cons]
  clear ht hb hu hc
  go_enter Tryd.func24, Tryd.ntmps24
  go_wp2
  refine bodyPost_ret (v := .tuple #[.agg #[.int .i64 1, .int .i64 (c / 6 % 2), .string ⟨#[]⟩, .slice none 0 0, .slice none 0 0], .slice A bs.length (cap - 1)]) (by simp [results, Tryd.results24, go_sem]) rfl ⟨⟨1, c / 6 % 2, ⟨#[]⟩, [], []⟩, _, _, _, rfl, Nice.of d _ _ _ (by decide) (by decide) ⟨by omega, by omega⟩ ⟨⟨0, rfl⟩, fun _ => by omega⟩, Rep.le (n := 0) ⟨rfl, rfl, rfl, rfl⟩ (Nat.zero_le _), HT.out, (Below.refl _ _).alloc (Nat.le_refl _) _⟩

set_option maxHeartbeats 1000000 in
theorem Made_int (d : Nat) (deep : Int) (u : UInt8) (bs : List UInt8) (a : Option Addr) (cap : Nat) (w : World) (hb : BytesAt w (.slice a (u :: bs).length cap) (u :: bs)) (hr : (u.toNat : Int) % 6 = 2) : Calls Tryd.prog 24 #[.slice a (u :: bs).length cap, .int .i64 deep] w
    fun e w' => ∃ x l f r, e = .returned (.tuple #[.agg #[.int .i64 x.kind, .int .i64 x.num, .string x.text, l, f], r]) ∧ MadeV d w w' (.slice a (u :: bs).length cap) (u :: bs) x l f r := by
  obtain ⟨b, o, rfl, c0, h1, h2, ht⟩ := hb.tail
  obtain ⟨A, hA⟩ : ∃ A : Option Addr, (if cap = 1 then some (⟨b, o, none⟩ : Addr) else some ⟨b, o + 1, none⟩) = A := ⟨_, rfl⟩
  have hlt := lt_of_cell c0
  have hu : u.toNat < 256 := u.toNat_lt
  obtain ⟨c, hc⟩ : ∃ c : Int, (u.toNat : Int) = c := ⟨_, rfl⟩
  rw [hc] at c0 hr
  have c1 : 0 ≤ c := by omega
  have c2 : c ≤ 255 := by omega
  have HT : Hid (Tl (.slice (some ⟨b, o, none⟩) (u :: bs).length cap) (u :: bs) (.slice A bs.length (cap - 1))) := ⟨bs, fun W hW => by obtain ⟨b', o', e, _, _, _, ht'⟩ := hW.tail; cases e; rw [hA] at ht'; exact ht'⟩
  simp only [List.length_cons]
  clear ht hb hu hc
  go_enter Tryd.func24, Tryd.ntmps24
  go_wp2_with fail
  refine (one_any (c / 6) (by omega) (by omega) _).mono ?_
  rintro e w' ⟨m, rfl, hm, rfl⟩
  go_wp2
  refine bodyPost_ret (v := .tuple #[.agg #[.int .i64 2, .int .i64 m, .string ⟨#[]⟩, .slice none 0 0, .slice none 0 0], .slice A bs.length (cap - 1)]) (by simp [results, Tryd.results24, go_sem]) rfl ⟨⟨2, m, ⟨#[]⟩, [], []⟩, _, _, _, rfl, Nice.of d _ _ _ (by decide) (by decide) hm (Wd.no _ _ (by decide)), Rep.le (n := 0) ⟨rfl, rfl, rfl, rfl⟩ (Nat.zero_le _), HT.out, (Below.refl _ _).alloc (Nat.le_refl _) _⟩

set_option maxHeartbeats 1000000 in
theorem Made_text (d : Nat) (deep : Int) (u : UInt8) (bs : List UInt8) (a : Option Addr) (cap : Nat) (w : World) (hb : BytesAt w (.slice a (u :: bs).length cap) (u :: bs)) (hT : Tabs w) (hr : (u.toNat : Int) % 6 = 3) : Calls Tryd.prog 24 #[.slice a (u :: bs).length cap, .int .i64 deep] w
    fun e w' => ∃ x l f r, e = .returned (.tuple #[.agg #[.int .i64 x.kind, .int .i64 x.num, .string x.text, l, f], r]) ∧ MadeV d w w' (.slice a (u :: bs).length cap) (u :: bs) x l f r := by
  obtain ⟨b, o, rfl, c0, h1, h2, ht⟩ := hb.tail
  obtain ⟨A, hA⟩ : ∃ A : Option Addr, (if cap = 1 then some (⟨b, o, none⟩ : Addr) else some ⟨b, o + 1, none⟩) = A := ⟨_, rfl⟩
  have hlt := lt_of_cell c0
  have hu : u.toNat < 256 := u.toNat_lt
  obtain ⟨c, hc⟩ : ∃ c : Int, (u.toNat : Int) = c := ⟨_, rfl⟩
  rw [hc] at c0 hr
  have c1 : 0 ≤ c := by omega
  have c2 : c ≤ 255 := by omega
  have HT : Hid (Tl (.slice (some ⟨b, o, none⟩) (u :: bs).length cap) (u :: bs) (.slice A bs.length (cap - 1))) := ⟨bs, fun W hW => by obtain ⟨b', o', e, _, _, _, ht'⟩ := hW.tail; cases e; rw [hA] at ht'; exact ht'⟩
  simp only [List.length_cons]
  clear ht hb hu hc
  obtain ⟨m, hm⟩ : ∃ m : Nat, c / 6 % 8 = (m : Int) := ⟨(c / 6 % 8).toNat, by omega⟩
  have hm8 : m < 8 := by omega
  have cw := hT.words m hm8
  have hlw := lt_of_cell cw
  have zm : (m : Int) < 8 := by omega
  go_enter Tryd.func24, Tryd.ntmps24
  go_wp2
  refine bodyPost_ret (v := .tuple #[.agg #[.int .i64 3, .int .i64 0, .string (wordAt m), .slice none 0 0, .slice none 0 0], .slice A bs.length (cap - 1)]) (by simp [results, Tryd.results24, go_sem]) rfl ⟨⟨3, 0, wordAt m, [], []⟩, _, _, _, rfl, Nice.of d _ _ _ (by decide) (by decide) ⟨by decide, by decide⟩ ⟨⟨m, rfl⟩, fun e => absurd e (by decide)⟩, Rep.le (n := 0) ⟨rfl, rfl, rfl, rfl⟩ (Nat.zero_le _), HT.out, (Below.refl _ _).alloc (Nat.le_refl _) _⟩

set_option maxHeartbeats 1000000 in
theorem Made_zero (d : Nat) (deep : Int) (u : UInt8) (bs : List UInt8) (a : Option Addr) (cap : Nat) (w : World) (hb : BytesAt w (.slice a (u :: bs).length cap) (u :: bs)) (hr : (u.toNat : Int) % 6 = 0) : Calls Tryd.prog 24 #[.slice a (u :: bs).length cap, .int .i64 deep] w
    fun e w' => ∃ x l f r, e = .returned (.tuple #[.agg #[.int .i64 x.kind, .int .i64 x.num, .string x.text, l, f], r]) ∧ MadeV d w w' (.slice a (u :: bs).length cap) (u :: bs) x l f r := by
  obtain ⟨b, o, rfl, c0, h1, h2, ht⟩ := hb.tail
  obtain ⟨A, hA⟩ : ∃ A : Option Addr, (if cap = 1 then some (⟨b, o, none⟩ : Addr) else some ⟨b, o + 1, none⟩) = A := ⟨_, rfl⟩
  have hlt := lt_of_cell c0
  have hu : u.toNat < 256 := u.toNat_lt
  obtain ⟨c, hc⟩ : ∃ c : Int, (u.toNat : Int) = c := ⟨_, rfl⟩
  rw [hc] at c0 hr
  have c1 : 0 ≤ c := by omega
  have c2 : c ≤ 255 := by omega
  have HT : Hid (Tl (.slice (some ⟨b, o, none⟩) (u :: bs).length cap) (u :: bs) (.slice A bs.length (cap - 1))) := ⟨bs, fun W hW => by obtain ⟨b', o', e, _, _, _, ht'⟩ := hW.tail; cases e; rw [hA] at ht'; exact ht'⟩
  simp only [List.length_cons]
  clear ht hb hu hc
  go_enter Tryd.func24, Tryd.ntmps24
  go_wp2
  refine bodyPost_ret (v := .tuple #[.agg #[.int .i64 0, .int .i64 0, .string ⟨#[]⟩, .slice none 0 0, .slice none 0 0], .slice A bs.length (cap - 1)]) (by simp [results, Tryd.results24, go_sem]) rfl ⟨⟨0, 0, ⟨#[]⟩, [], []⟩, _, _, _, rfl, Nice.of d _ _ _ (by decide) (by decide) ⟨by decide, by decide⟩ (Wd.no _ _ (by decide)), Rep.le (n := 0) ⟨rfl, rfl, rfl, rfl⟩ (Nat.zero_le _), HT.out, (Below.refl _ _).alloc (Nat.le_refl _) _⟩

set_option maxHeartbeats 1000000 in
theorem Made_four (d : Nat) (deep : Int) (u : UInt8) (bs : List UInt8) (a : Option Addr) (cap : Nat) (w : World) (hb : BytesAt w (.slice a (u :: bs).length cap) (u :: bs)) (hd : deep ≤ 1) (hr : (u.toNat : Int) % 6 = 4) : Calls Tryd.prog 24 #[.slice a (u :: bs).length cap, .int .i64 deep] w
    fun e w' => ∃ x l f r, e = .returned (.tuple #[.agg #[.int .i64 x.kind, .int .i64 x.num, .string x.text, l, f], r]) ∧ MadeV d w w' (.slice a (u :: bs).length cap) (u :: bs) x l f r := by
  obtain ⟨b, o, rfl, c0, h1, h2, ht⟩ := hb.tail
  obtain ⟨A, hA⟩ : ∃ A : Option Addr, (if cap = 1 then some (⟨b, o, none⟩ : Addr) else some ⟨b, o + 1, none⟩) = A := ⟨_, rfl⟩
  have hlt := lt_of_cell c0
  have hu : u.toNat < 256 := u.toNat_lt
  obtain ⟨c, hc⟩ : ∃ c : Int, (u.toNat : Int) = c := ⟨_, rfl⟩
  rw [hc] at c0 hr
  have c1 : 0 ≤ c := by omega
  have c2 : c ≤ 255 := by omega
  have HT : Hid (Tl (.slice (some ⟨b, o, none⟩) (u :: bs).length cap) (u :: bs) (.slice A bs.length (cap - 1))) := ⟨bs, fun W hW => by obtain ⟨b', o', e, _, _, _, ht'⟩ := hW.tail; cases e; rw [hA] at ht'; exact ht'⟩
  simp only [List.length_cons]
  clear ht hb hu hc
  have hd1 : ¬ 1 < deep := by omega
  go_enter Tryd.func24, Tryd.ntmps24
  go_wp2
  refine bodyPost_ret (v := .tuple #[.agg #[.int .i64 0, .int .i64 0, .string ⟨#[]⟩, .slice none 0 0, .slice none 0 0], .slice A bs.length (cap - 1)]) (by simp [results, Tryd.results24, go_sem]) rfl ⟨⟨0, 0, ⟨#[]⟩, [], []⟩, _, _, _, rfl, Nice.of d _ _ _ (by decide) (by decide) ⟨by decide, by decide⟩ (Wd.no _ _ (by decide)), Rep.le (n := 0) ⟨rfl, rfl, rfl, rfl⟩ (Nat.zero_le _), HT.out, (Below.refl _ _).alloc (Nat.le_refl _) _⟩

set_option maxHeartbeats 1000000 in
theorem Made_five (d : Nat) (deep : Int) (u : UInt8) (bs : List UInt8) (a : Option Addr) (cap : Nat) (w : World) (hb : BytesAt w (.slice a (u :: bs).length cap) (u :: bs)) (hd : deep ≤ 1) (hr : (u.toNat : Int) % 6 = 5) : Calls Tryd.prog 24 #[.slice a (u :: bs).length cap, .int .i64 deep] w
    fun e w' => ∃ x l f r, e = .returned (.tuple #[.agg #[.int .i64 x.kind, .int .i64 x.num, .string x.text, l, f], r]) ∧ MadeV d w w' (.slice a (u :: bs).length cap) (u :: bs) x l f r := by
  obtain ⟨b, o, rfl, c0, h1, h2, ht⟩ := hb.tail
  obtain ⟨A, hA⟩ : ∃ A : Option Addr, (if cap = 1 then some (⟨b, o, none⟩ : Addr) else some ⟨b, o + 1, none⟩) = A := ⟨_, rfl⟩
  have hlt := lt_of_cell c0
  have hu : u.toNat < 256 := u.toNat_lt
  obtain ⟨c, hc⟩ : ∃ c : Int, (u.toNat : Int) = c := ⟨_, rfl⟩
  rw [hc] at c0 hr
  have c1 : 0 ≤ c := by omega
  have c2 : c ≤ 255 := by omega
  have HT : Hid (Tl (.slice (some ⟨b, o, none⟩) (u :: bs).length cap) (u :: bs) (.slice A bs.length (cap - 1))) := ⟨bs, fun W hW => by obtain ⟨b', o', e, _, _, _, ht'⟩ := hW.tail; cases e; rw [hA] at ht'; exact ht'⟩
  simp only [List.length_cons]
  clear ht hb hu hc
  have hd1 : ¬ 1 < deep := by omega
  go_enter Tryd.func24, Tryd.ntmps24
  go_wp2
  refine bodyPost_ret (v := .tuple #[.agg #[.int .i64 0, .int .i64 0, .string ⟨#[]⟩, .slice none 0 0, .slice none 0 0], .slice A bs.length (cap - 1)]) (by simp [results, Tryd.results24, go_sem]) rfl ⟨⟨0, 0, ⟨#[]⟩, [], []⟩, _, _, _, rfl, Nice.of d _ _ _ (by decide) (by decide) ⟨by decide, by decide⟩ (Wd.no _ _ (by decide)), Rep.le (n := 0) ⟨rfl, rfl, rfl, rfl⟩ (Nat.zero_le _), HT.out, (Below.refl _ _).alloc (Nat.le_refl _) _⟩

end Go.Proofs.YtjihfbahcebljaaDoor
