/-
  The law's maker of values: what it makes, its tables, its numbers. No conditions beyond those stated.
-/
import Derived.Test.YtjihfbahcebljaaDoorVDel
namespace Go.Proofs.YtjihfbahcebljaaDoor
open Go.RowKit

def I64 (x : Int) : Prop := -9223372036854775808 ≤ x ∧ x ≤ 9223372036854775807
def wordAt : Nat → ByteArray
  | 0 => ⟨#[]⟩
  | 1 => ⟨#[97]⟩
  | 2 => ⟨#[98]⟩
  | 3 => ⟨#[97, 98]⟩
  | 4 => ⟨#[0]⟩
  | 5 => ⟨#[195, 169]⟩
  | 6 => ⟨#[122, 0]⟩
  | _ => ⟨#[108, 111, 110, 103, 44, 32, 97, 110, 100, 32, 108, 111, 110, 103, 101, 114]⟩
theorem wordAt_size (i : Nat) : (wordAt i).size ≤ 16 := by
  unfold wordAt
  split <;> decide
def nameAt : Nat → ByteArray
  | 0 => ⟨#[97]⟩
  | 1 => ⟨#[98]⟩
  | 2 => ⟨#[99]⟩
  | _ => ⟨#[110]⟩
theorem nameAt_size (i : Nat) : (nameAt i).size ≤ 1 := by
  unfold nameAt
  split <;> decide
/-- what a value's number and text are beside its kind. -/
def Wd (k m : Int) (t : ByteArray) : Prop := (∃ i, t = wordAt i) ∧ (k = 1 → m = 0 ∨ m = 1)
theorem Wd.size {k m : Int} {t : ByteArray} (h : Wd k m t) : t.size ≤ 16 := by
  obtain ⟨⟨i, rfl⟩, _⟩ := h
  exact wordAt_size i
theorem Wd.no (k m : Int) (h : k ≠ 1) : Wd k m ⟨#[]⟩ := ⟨⟨0, rfl⟩, fun e => absurd e h⟩
/-- a value as the law makes them, so deep. -/
def Nice : Nat → V → Prop
  | 0, v => 0 ≤ v.kind ∧ v.kind ≤ 5 ∧ I64 v.num ∧ Wd v.kind v.num v.text ∧ v.list = [] ∧ v.fields = []
  | n + 1, v => 0 ≤ v.kind ∧ v.kind ≤ 5 ∧ I64 v.num ∧ Wd v.kind v.num v.text ∧ v.list.length ≤ 3 ∧ v.fields.length ≤ 4 ∧ Rises v.fields ∧ (∀ x ∈ v.list, Nice n x) ∧ (∀ p ∈ v.fields, (∃ i, p.1 = nameAt i) ∧ Nice n p.2)
theorem Nice.plain : ∀ (n : Nat) {v : V}, 0 ≤ v.kind → v.kind ≤ 5 → I64 v.num → Wd v.kind v.num v.text → v.list = [] → v.fields = [] → Nice n v
  | 0, _, h1, h2, h3, h4, h5, h6 => ⟨h1, h2, h3, h4, h5, h6⟩
  | n + 1, _, h1, h2, h3, h4, h5, h6 => ⟨h1, h2, h3, h4, by simp [h5], by simp [h6], (by rw [h6]; trivial), fun x hx => (by rw [h5] at hx; cases hx), fun x hx => (by rw [h6] at hx; cases hx)⟩

theorem nameAt_less {i j : Nat} (h : i < j) (hj : j < 4) : cmpT (nameAt i) (nameAt j) < 0 := by
  rw [cmpT_data]
  obtain rfl | rfl | rfl : j = 1 ∨ j = 2 ∨ j = 3 := by omega
  · obtain rfl : i = 0 := by omega
    decide
  · obtain rfl | rfl : i = 0 ∨ i = 1 := by omega
    · decide
    · decide
  · obtain rfl | rfl | rfl : i = 0 ∨ i = 1 ∨ i = 2 := by omega
    · decide
    · decide
    · decide
/-- the two tables of the law. -/
structure Tabs (w : World) : Prop where
  words : ∀ i, i < 8 → w.cell? ⟨0, i, none⟩ = some (.string (wordAt i))
  names : ∀ i, i < 4 → w.cell? ⟨1, i, none⟩ = some (.string (nameAt i))
theorem Tabs.below {w w' : World} (h : Tabs w) (hb : Below w.heap.size w w') : Tabs w' :=
  ⟨fun i hi => by rw [hb.cell (lt_of_cell (h.words i hi))]; exact h.words i hi, fun i hi => by rw [hb.cell (lt_of_cell (h.names i hi))]; exact h.names i hi⟩

/-- a slice of bytes. -/
def BytesAt (W : World) (s : Value) (bs : List UInt8) : Prop :=
  ∃ (a : Option Addr) (cap : Nat), s = .slice a bs.length cap ∧ bs.length ≤ cap ∧ cap ≤ 9223372036854775807 ∧ (bs ≠ [] → ∃ b o, a = some ⟨b, o, none⟩ ∧ ∀ (j : Nat) (u : UInt8), bs[j]? = some u → W.cell? ⟨b, o + j, none⟩ = some (.int .u8 u.toNat))
theorem BytesAt.below {W W' : World} {s : Value} {bs : List UInt8} (h : BytesAt W s bs) (hb : Below W.heap.size W W') : BytesAt W' s bs := by
  obtain ⟨a, cap, h1, h2, h3, h4⟩ := h
  refine ⟨a, cap, h1, h2, h3, fun hne => ?_⟩
  obtain ⟨b, o, h5, h6⟩ := h4 hne
  exact ⟨b, o, h5, fun j u hj => by rw [hb.cell (lt_of_cell (h6 j u hj))]; exact h6 j u hj⟩

theorem rises_snoc {nm : ByteArray} {x : V} : ∀ {ps : List (ByteArray × V)}, Rises ps → (∀ p ∈ ps, cmpT p.1 nm < 0) → Rises (ps ++ [(nm, x)])
  | [], _, _ => trivial
  | [p], _, h => ⟨h p (by simp), trivial⟩
  | p :: q :: ps, hr, h => ⟨hr.1, rises_snoc hr.2 fun r hr => h r (List.mem_cons_of_mem _ hr)⟩

set_option maxHeartbeats 1000000 in
theorem one_any (q : Int) (h0 : 0 ≤ q) (h1 : q ≤ 42) (w : World) : Calls Tryd.prog 35 #[.int .u8 q] w fun e w' => ∃ m, e = .returned (.int .i64 m) ∧ I64 m ∧ w' = w := by
  by_cases e0 : q % 8 = 0
  · go_enter Tryd.func35, Tryd.ntmps35
    go_wp2
    go_ret
    exact ⟨_, rfl, ⟨by omega, by omega⟩, rfl⟩
  by_cases e1 : q % 8 = 1
  · go_enter Tryd.func35, Tryd.ntmps35
    go_wp2
    go_ret
    exact ⟨_, rfl, ⟨by omega, by omega⟩, rfl⟩
  by_cases e2 : q % 8 = 2
  · go_enter Tryd.func35, Tryd.ntmps35
    go_wp2
    go_ret
    exact ⟨_, rfl, ⟨by omega, by omega⟩, rfl⟩
  have f0 : (q % 8 == 0) = false := by simpa using e0
  have f1 : (q % 8 == 1) = false := by simpa using e1
  have f2 : (q % 8 == 2) = false := by simpa using e2
  go_enter Tryd.func35, Tryd.ntmps35
  go_wp2
  go_ret
  exact ⟨_, rfl, ⟨by omega, by omega⟩, rfl⟩
end Go.Proofs.YtjihfbahcebljaaDoor
