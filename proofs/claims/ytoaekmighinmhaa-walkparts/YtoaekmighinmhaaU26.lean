/-
  The law's near, a range of few keys, and In by their contracts. Conditions: as stated.
  A tree beside a row of entries; two trees beside one another: what a step of one leaves of the other. Conditions: as stated.
  A tree beside a row of entries and beside blocks of variables. Conditions: as stated.
  The law's laid: a tree behind deeds, and its entries in order. Conditions: as stated.
-/
import Derived.Test.YtoaekmighinmhaaU25
import Derived.Test.YtoaekmighinmhaaU6
import Derived.Test.YtoaekmighinmhaaU22
namespace Go.Proofs.Ytoaekmighinmhaa
open Go.RowKit

/-- the ends of a range of few keys. -/
def frN (a : Int) : ByteArray := if a % 7 = 6 then ⟨#[]⟩ else ⟨#[UInt8.ofNat (97 + a % 7).toNat]⟩
def toN (b : Int) : ByteArray := if b % 8 = 7 then ⟨#[]⟩ else ⟨#[UInt8.ofNat (97 + b % 8).toNat]⟩
/-- a range in a block. -/
abbrev Rg (w : World) (X : Nat) (fr to : ByteArray) (dn : Bool) : Prop := w.heap[X]? = some (.cells #[.string fr, .string to, .bool dn] 29 (0, 0))
theorem Rg.view {w : World} {X : Nat} {fr to : ByteArray} {dn : Bool} (h : Rg w X fr to dn) : w.cell? ⟨X, 0, none⟩ = some (.string fr) ∧ w.cell? ⟨X, 1, none⟩ = some (.string to) ∧ w.cell? ⟨X, 2, none⟩ = some (.bool dn) ∧ (∀ j, w.frozen? ⟨X, j, none⟩ = false) ∧ X < w.heap.size :=
  ⟨by simp [World.cell?, h], by simp [World.cell?, h], by simp [World.cell?, h], fun j => by simp [World.frozen?, h], lt_of_heap h⟩
theorem Rg.below {w w' : World} {X : Nat} {fr to : ByteArray} {dn : Bool} (h : Rg w X fr to dn) (hb : Below w.heap.size w w') : Rg w' X fr to dn := (hb.block _ (lt_of_heap h)).trans h
/-- a range that is made. -/
theorem boxR_any (w : World) (fr to : ByteArray) (dn : Bool) : ∃ W0, w.alloc (.cells #[.string fr, .string to, .bool dn] 29) = W0 ∧ Below w.heap.size w W0 ∧ W0.heap.size = w.heap.size + 1 ∧ Rg W0 w.heap.size fr to dn :=
  ⟨_, rfl, (Below.refl _ _).alloc (Nat.le_refl _) _, by simp, heap_alloc_new _ _⟩
theorem boxB_any (w : World) (k : Int) (h0 : 0 ≤ k) (h1 : k < 256) : ∃ W0 s, w.alloc (.cells #[.int .u8 k] 5) = W0 ∧ Hid (s = ⟨#[UInt8.ofNat k.toNat]⟩) ∧ Below w.heap.size w W0 ∧ W0.heap.size = w.heap.size + 1 ∧ (convert 54 9 (.slice (some ⟨w.heap.size, 0, none⟩) 1 1)).run Try.prog W0 = .ok (.string s) W0 :=
  ⟨_, _, rfl, rfl, (Below.refl _ _).alloc (Nat.le_refl _) _, by simp, byte_str w _ rfl k h0 h1⟩
set_option maxRecDepth 100000 in
theorem near_any (a b : Int) (dn : Bool) (ha : 0 ≤ a ∧ a < 256) (hb : 0 ≤ b ∧ b < 256) (w : World) : Calls Try.prog 11 #[.int .u8 a, .int .u8 b, .bool dn] w fun r w' => r = .returned (.agg #[.string (frN a), .string (toN b), .bool dn]) ∧ Below w.heap.size w w' := by
  obtain ⟨W0, hW0, hb0, hs0, r0⟩ := boxR_any w ⟨#[]⟩ ⟨#[]⟩ false
  by_cases h1 : a % 7 = 6
  · by_cases h2 : b % 8 = 7
    · obtain ⟨W1, s1, hW1, HS1, hb1, hs1, hc1⟩ := boxB_any W0 103 (by omega) (by omega)
      obtain ⟨W2, s2, hW2, HS2, hb2, hs2, hc2⟩ := boxB_any W1 104 (by omega) (by omega)
      obtain ⟨W3, hW3, hb3, hs3, r3⟩ := boxR_any W2 s1 s2 dn
      have hfr : frN a = ⟨#[]⟩ := if_pos h1
      have hto : toN b = ⟨#[]⟩ := if_pos h2
      rw [hs0] at hs1 hc1
      rw [hs1] at hs2 hc2
      rw [hs2] at hs3 r3
      have hb12 := hb1.trans (hb2.mono hb1.size)
      have hb13 := hb12.trans (hb3.mono hb12.size)
      obtain ⟨e0, e1, e2, ef, hel⟩ := (r0.below hb13).view
      obtain ⟨x0, x1, x2, xf, hxl⟩ := r3.view
      have hB := hb0.trans (hb13.mono hb0.size)
      have HF := (show Hid _ from And.intro hfr (And.intro hto hB))
      have h1d : decide (a % 7 = 6) = true := decide_eq_true h1
      have h2d : decide (b % 8 = 7) = true := decide_eq_true h2
      clear r0 r3 hb1 hb2 hb3 hb12 hb13 hb0 hfr hto hB
      go_enter Try.func11, Try.ntmps11
      go_wp2
      refine bodyPost_ret (v := .agg #[.string ⟨#[]⟩, .string ⟨#[]⟩, .bool dn]) (by simp [results, Try.results11, go_sem, e0, e1, e2]) rfl ⟨by rw [HF.out.1, HF.out.2.1], ?_⟩
      have hB := HF.out.2.2
      have z3 : w.heap.size ≤ w.heap.size + 1 + 1 + 1 := by omega
      exact (((((hB.setCell (p := ⟨w.heap.size + 1 + 1 + 1, 0, none⟩) z3 _).setCell (p := ⟨w.heap.size + 1 + 1 + 1, 1, none⟩) z3 _).setCell (p := ⟨w.heap.size, 0, none⟩) (Nat.le_refl _) _).setCell (p := ⟨w.heap.size, 1, none⟩) (Nat.le_refl _) _).setCell (p := ⟨w.heap.size, 2, none⟩) (Nat.le_refl _) _)
    · obtain ⟨W1, s1, hW1, HS1, hb1, hs1, hc1⟩ := boxB_any W0 103 (by omega) (by omega)
      obtain ⟨W2, s2, hW2, HS2, hb2, hs2, hc2⟩ := boxB_any W1 (97 + b % 8) (by omega) (by omega)
      obtain ⟨W3, hW3, hb3, hs3, r3⟩ := boxR_any W2 s1 s2 dn
      have hfr : frN a = ⟨#[]⟩ := if_pos h1
      have hto : toN b = s2 := (if_neg h2).trans HS2.out.symm
      rw [hs0] at hs1 hc1
      rw [hs1] at hs2 hc2
      rw [hs2] at hs3 r3
      have hb12 := hb1.trans (hb2.mono hb1.size)
      have hb13 := hb12.trans (hb3.mono hb12.size)
      obtain ⟨e0, e1, e2, ef, hel⟩ := (r0.below hb13).view
      obtain ⟨x0, x1, x2, xf, hxl⟩ := r3.view
      have hB := hb0.trans (hb13.mono hb0.size)
      have HF := (show Hid _ from And.intro hfr (And.intro hto hB))
      have h1d : decide (a % 7 = 6) = true := decide_eq_true h1
      have h2d : decide (b % 8 = 7) = false := decide_eq_false h2
      clear r0 r3 hb1 hb2 hb3 hb12 hb13 hb0 hfr hto hB
      go_enter Try.func11, Try.ntmps11
      go_wp2
      refine bodyPost_ret (v := .agg #[.string ⟨#[]⟩, .string s2, .bool dn]) (by simp [results, Try.results11, go_sem, e0, e1, e2]) rfl ⟨by rw [HF.out.1, HF.out.2.1], ?_⟩
      have hB := HF.out.2.2
      have z3 : w.heap.size ≤ w.heap.size + 1 + 1 + 1 := by omega
      exact ((((hB.setCell (p := ⟨w.heap.size + 1 + 1 + 1, 0, none⟩) z3 _).setCell (p := ⟨w.heap.size, 0, none⟩) (Nat.le_refl _) _).setCell (p := ⟨w.heap.size, 1, none⟩) (Nat.le_refl _) _).setCell (p := ⟨w.heap.size, 2, none⟩) (Nat.le_refl _) _)
  · by_cases h2 : b % 8 = 7
    · obtain ⟨W1, s1, hW1, HS1, hb1, hs1, hc1⟩ := boxB_any W0 (97 + a % 7) (by omega) (by omega)
      obtain ⟨W2, s2, hW2, HS2, hb2, hs2, hc2⟩ := boxB_any W1 104 (by omega) (by omega)
      obtain ⟨W3, hW3, hb3, hs3, r3⟩ := boxR_any W2 s1 s2 dn
      have hfr : frN a = s1 := (if_neg h1).trans HS1.out.symm
      have hto : toN b = ⟨#[]⟩ := if_pos h2
      rw [hs0] at hs1 hc1
      rw [hs1] at hs2 hc2
      rw [hs2] at hs3 r3
      have hb12 := hb1.trans (hb2.mono hb1.size)
      have hb13 := hb12.trans (hb3.mono hb12.size)
      obtain ⟨e0, e1, e2, ef, hel⟩ := (r0.below hb13).view
      obtain ⟨x0, x1, x2, xf, hxl⟩ := r3.view
      have hB := hb0.trans (hb13.mono hb0.size)
      have HF := (show Hid _ from And.intro hfr (And.intro hto hB))
      have h1d : decide (a % 7 = 6) = false := decide_eq_false h1
      have h2d : decide (b % 8 = 7) = true := decide_eq_true h2
      clear r0 r3 hb1 hb2 hb3 hb12 hb13 hb0 hfr hto hB
      go_enter Try.func11, Try.ntmps11
      go_wp2
      refine bodyPost_ret (v := .agg #[.string s1, .string ⟨#[]⟩, .bool dn]) (by simp [results, Try.results11, go_sem, e0, e1, e2]) rfl ⟨by rw [HF.out.1, HF.out.2.1], ?_⟩
      have hB := HF.out.2.2
      have z3 : w.heap.size ≤ w.heap.size + 1 + 1 + 1 := by omega
      exact ((((hB.setCell (p := ⟨w.heap.size + 1 + 1 + 1, 1, none⟩) z3 _).setCell (p := ⟨w.heap.size, 0, none⟩) (Nat.le_refl _) _).setCell (p := ⟨w.heap.size, 1, none⟩) (Nat.le_refl _) _).setCell (p := ⟨w.heap.size, 2, none⟩) (Nat.le_refl _) _)
    · obtain ⟨W1, s1, hW1, HS1, hb1, hs1, hc1⟩ := boxB_any W0 (97 + a % 7) (by omega) (by omega)
      obtain ⟨W2, s2, hW2, HS2, hb2, hs2, hc2⟩ := boxB_any W1 (97 + b % 8) (by omega) (by omega)
      obtain ⟨W3, hW3, hb3, hs3, r3⟩ := boxR_any W2 s1 s2 dn
      have hfr : frN a = s1 := (if_neg h1).trans HS1.out.symm
      have hto : toN b = s2 := (if_neg h2).trans HS2.out.symm
      rw [hs0] at hs1 hc1
      rw [hs1] at hs2 hc2
      rw [hs2] at hs3 r3
      have hb12 := hb1.trans (hb2.mono hb1.size)
      have hb13 := hb12.trans (hb3.mono hb12.size)
      obtain ⟨e0, e1, e2, ef, hel⟩ := (r0.below hb13).view
      obtain ⟨x0, x1, x2, xf, hxl⟩ := r3.view
      have hB := hb0.trans (hb13.mono hb0.size)
      have HF := (show Hid _ from And.intro hfr (And.intro hto hB))
      have h1d : decide (a % 7 = 6) = false := decide_eq_false h1
      have h2d : decide (b % 8 = 7) = false := decide_eq_false h2
      clear r0 r3 hb1 hb2 hb3 hb12 hb13 hb0 hfr hto hB
      go_enter Try.func11, Try.ntmps11
      go_wp2
      refine bodyPost_ret (v := .agg #[.string s1, .string s2, .bool dn]) (by simp [results, Try.results11, go_sem, e0, e1, e2]) rfl ⟨by rw [HF.out.1, HF.out.2.1], ?_⟩
      have hB := HF.out.2.2
      have z3 : w.heap.size ≤ w.heap.size + 1 + 1 + 1 := by omega
      exact (((hB.setCell (p := ⟨w.heap.size, 0, none⟩) (Nat.le_refl _) _).setCell (p := ⟨w.heap.size, 1, none⟩) (Nat.le_refl _) _).setCell (p := ⟨w.heap.size, 2, none⟩) (Nat.le_refl _) _)
theorem In_any (e : En) (fr to : ByteArray) (dn : Bool) (w : World) : Calls Try.prog 20 #[.agg #[.string e.1, .int .i64 e.2], .agg #[.string fr, .string to, .bool dn]] w fun r w' => r = .returned (.bool (inE fr to e)) ∧ Below w.heap.size w w' := by
  obtain ⟨k, i⟩ := e
  obtain ⟨W0, hW0, hb0, hs0, k0, k1⟩ := box_any w k i
  obtain ⟨W1, hW1, hb1, hs1, r1⟩ := boxR_any W0 fr to dn
  obtain ⟨c0, c1, c2, -, -⟩ := r1.view
  rw [hs0] at c0 c1 c2
  have k0' : W1.cell? ⟨w.heap.size, 0, none⟩ = some (.string k) := (hb1.cell (by show w.heap.size < _; omega)).trans k0
  have hb : Below w.heap.size w W1 := hb0.trans (hb1.mono (by omega))
  have h1 : Op.bytesLess k.toList fr.toList = decide (cmpT k fr < 0) := bytesLess_eq _ _
  have h2 : Op.bytesLess k.toList to.toList = decide (cmpT k to < 0) := bytesLess_eq _ _
  have he := empty_cmpT to
  have hi : inE fr to (k, i) = (!decide (cmpT k fr < 0) && (decide (cmpT to ⟨#[]⟩ = 0) || decide (cmpT k to < 0))) := rfl
  generalize inE fr to (k, i) = z at *
  generalize decide (cmpT k fr < 0) = p at *
  generalize decide (cmpT to ⟨#[]⟩ = 0) = q at *
  generalize decide (cmpT k to < 0) = r at *
  subst hi
  clear k0 k1 r1 hb0 hb1
  cases p with
  | true =>
    go_enter Try.func20, Try.ntmps20
    go_wp2
    go_ret
    exact ⟨rfl, hb⟩
  | false =>
    cases q with
    | true =>
      have hz : to.toList = [] := List.isEmpty_iff.1 he
      go_enter Try.func20, Try.ntmps20
      go_wp2
      go_ret
      exact ⟨rfl, hb⟩
    | false =>
      have hz : ¬ to.toList = [] := fun h => by rw [h] at he; cases he
      go_enter Try.func20, Try.ntmps20
      go_wp2
      go_ret
      exact ⟨rfl, hb⟩
end Go.Proofs.Ytoaekmighinmhaa

namespace Go.Proofs.Ytoaekmighinmhaa
open Go.RowKit

/-- a tree of l, a row of m, apart, all new since. -/
def Both (w0 w : World) (T : Nat) (l : List En) (lv : Value) (m : List En) : Prop :=
  ∃ (F : Nat → Prop) (B : Nat), TrF F w T l ∧ (∀ a, F a → w0.heap.size ≤ a ∧ a < w.heap.size) ∧ w.ownsRow B 34 2 lv m.length (encEns m) ∧ w0.heap.size ≤ B ∧ (∀ a, F a → lv.ownBlock ≠ some a) ∧ Below w0.heap.size w0 w
section
variable {w0 w w' : World} {T : Nat} {l m m' : List En} {lv v' : Value}
theorem Both.below (h : Both w0 w T l lv m) : Below w0.heap.size w0 w := by
  obtain ⟨F, B, -, -, -, -, -, h6⟩ := h; exact h6
theorem Both.row (h : Both w0 w T l lv m) : ∃ B, w.ownsRow B 34 2 lv m.length (encEns m) := by
  obtain ⟨F, B, -, -, h3, -⟩ := h; exact ⟨B, h3⟩
theorem Both.tree (h : Both w0 w T l lv m) : ∃ F, TrF F w T l := by
  obtain ⟨F, B, h1, -⟩ := h; exact ⟨F, h1⟩
theorem Both.sort (h : Both w0 w T l lv m) : SortE l := by
  obtain ⟨F, h1⟩ := h.tree; exact h1.sort
theorem Both.slice (h : Both w0 w T l lv m) : ∃ a c, lv = .slice a m.length c := by
  obtain ⟨B, h1⟩ := h.row; exact slice_of_row h1
theorem Both.same (h : Both w0 w T l lv m) (hb : Below w.heap.size w w') : Both w0 w' T l lv m := by
  obtain ⟨F, B, h1, h2, h3, h4, h5, h6⟩ := h
  exact ⟨F, B, h1.below hb, fun a ha => ⟨(h2 a ha).1, Nat.lt_of_lt_of_le (h2 a ha).2 hb.size⟩, own_keep h3 fun a ha => hb.block a (own_lt h3 ha), h4, h5, h6.trans (hb.mono h6.size)⟩
theorem Both.with {B' : Nat} (h : Both w0 w T l lv m) (ho : OwE w B' v' m' w') : Both w0 w' T l v' m' := by
  obtain ⟨F, B, h1, h2, h3, h4, h5, h6⟩ := h
  refine ⟨F, B', h1.below ho.below, fun a ha => ⟨(h2 a ha).1, Nat.lt_of_lt_of_le (h2 a ha).2 ho.below.size⟩, ho.own, Nat.le_trans h6.size ho.le, fun a ha e => ?_, h6.trans (ho.below.mono h6.size)⟩
  have h7 := (ho.own.lt a e).1
  have h8 := (h2 a ha).2
  have h9 := ho.le
  omega
theorem Both.new (hb : Below w0.heap.size w0 w) (ht : TrF (fun a => w.heap.size ≤ a) w' T []) (hb' : Below w.heap.size w w') : Both w0 w' T [] (.slice none 0 0) [] :=
  ⟨_, w0.heap.size, ht.tight, fun a ha => ⟨Nat.le_trans hb.size ha.1, ha.2⟩, World.ownsRow_nil _ _ _ _, Nat.le_refl _, (fun a _ e => by cases e), hb.trans (hb'.mono hb.size)⟩
theorem Both.step {F : Nat → Prop} {B : Nat} {l' : List En} (_h1 : TrF F w T l) (h2 : ∀ a, F a → w0.heap.size ≤ a ∧ a < w.heap.size) (h3 : w.ownsRow B 34 2 lv m.length (encEns m)) (h4 : w0.heap.size ≤ B) (h5 : ∀ a, F a → lv.ownBlock ≠ some a) (h6 : Below w0.heap.size w0 w)
    (ht : TrF (fun a => F a ∨ w.heap.size ≤ a) w' T l') (hf : Far F w w') : Both w0 w' T l' lv m := by
  refine ⟨_, B, ht.tight, fun a ha => ⟨?_, ha.2⟩, own_keep h3 fun a ha => hf.block a (own_lt h3 ha) fun hF => h5 a hF (vc_ne ha), h4, fun a ha e => ?_, h6.trans (hf.below h6.size fun a ha => (h2 a ha).1)⟩
  · rcases ha.1 with h7 | h7
    · exact (h2 a h7).1
    · exact Nat.le_trans h6.size h7
  · rcases ha.1 with h7 | h7
    · exact h5 a h7 e
    · have := (h3.lt a e).2
      omega
theorem Both.add (h : Both w0 w T l lv m) (e : En) (hn : l.length ≤ 1000000) : Calls Try.prog 15 #[.pointer (some ⟨T, 0, none⟩), .agg #[.string e.1, .int .i64 e.2]] w fun r w' => r = .returned (.bool (!hasE e l)) ∧ Both w0 w' T (insE e l) lv m := by
  obtain ⟨F, B, h1, h2, h3, h4, h5, h6⟩ := h
  exact (AddT_any e w h1 hn).mono fun r w' ⟨k1, k2, k3⟩ => ⟨k1, Both.step h1 h2 h3 h4 h5 h6 k2 k3⟩
theorem Both.del (h : Both w0 w T l lv m) (e : En) (hn : l.length ≤ 1000000) : Calls Try.prog 16 #[.pointer (some ⟨T, 0, none⟩), .agg #[.string e.1, .int .i64 e.2]] w fun r w' => r = .returned (.bool (hasE e l)) ∧ Both w0 w' T (delE e l) lv m := by
  obtain ⟨F, B, h1, h2, h3, h4, h5, h6⟩ := h
  exact (DelT_any e w h1 hn).mono fun r w' ⟨k1, k2, k3⟩ => ⟨k1, Both.step h1 h2 h3 h4 h5 h6 k2 k3⟩
theorem Both.With (h : Both w0 w T l lv m) (e : En) (inn : Bool) (hn : m.length ≤ 100000) : Calls Try.prog 13 #[lv, .agg #[.string e.1, .int .i64 e.2], .bool inn] w fun r w' => ∃ v', r = .returned (.tuple #[v', .bool (hasE e m != inn)]) ∧ Both w0 w' T l v' (withL e (!inn) m) ∧ Below w.heap.size w w' := by
  obtain ⟨B, hr⟩ := h.row
  exact (With_any m lv B e inn w hr hn).mono fun r w' ⟨v', k1, k2⟩ => ⟨v', k1, h.with k2, k2.below⟩
end
/-- two trees, apart, all new since. -/
def Two (w0 w : World) (T U : Nat) (l m : List En) : Prop :=
  ∃ F G : Nat → Prop, TrF F w T l ∧ TrF G w U m ∧ (∀ a, F a → w0.heap.size ≤ a ∧ a < w.heap.size) ∧ (∀ a, G a → w0.heap.size ≤ a ∧ a < w.heap.size) ∧ (∀ a, F a → ¬ G a) ∧ Below w0.heap.size w0 w
section
variable {w0 w w' : World} {T U : Nat} {l m : List En}
theorem Two.below (h : Two w0 w T U l m) : Below w0.heap.size w0 w := by
  obtain ⟨F, G, -, -, -, -, -, h6⟩ := h; exact h6
theorem Two.left (h : Two w0 w T U l m) : ∃ F, TrF F w T l := by
  obtain ⟨F, G, h1, -⟩ := h; exact ⟨F, h1⟩
theorem Two.turn (h : Two w0 w T U l m) : Two w0 w U T m l := by
  obtain ⟨F, G, h1, h2, h3, h4, h5, h6⟩ := h
  exact ⟨G, F, h2, h1, h4, h3, fun a hG hF => h5 a hF hG, h6⟩
theorem Two.same (h : Two w0 w T U l m) (hb : Below w.heap.size w w') : Two w0 w' T U l m := by
  obtain ⟨F, G, h1, h2, h3, h4, h5, h6⟩ := h
  exact ⟨F, G, h1.below hb, h2.below hb, fun a ha => ⟨(h3 a ha).1, Nat.lt_of_lt_of_le (h3 a ha).2 hb.size⟩, fun a ha => ⟨(h4 a ha).1, Nat.lt_of_lt_of_le (h4 a ha).2 hb.size⟩, h5, h6.trans (hb.mono h6.size)⟩
theorem Two.new {w1 w2 : World} (hb : Below w0.heap.size w0 w) (ht : TrF (fun a => w.heap.size ≤ a) w1 T []) (hb1 : Below w.heap.size w w1) (hu : TrF (fun a => w1.heap.size ≤ a) w2 U []) (hb2 : Below w1.heap.size w1 w2) : Two w0 w2 T U [] [] := by
  have h1 := ht.tight.below hb2
  have h2 := hu.tight
  refine ⟨_, _, h1, h2, fun a ha => ⟨Nat.le_trans hb.size ha.1, Nat.lt_of_lt_of_le ha.2 hb2.size⟩, fun a ha => ⟨Nat.le_trans (hb.trans (hb1.mono hb.size)).size ha.1, ha.2⟩, fun a ha hc => ?_, (hb.trans (hb1.mono hb.size)).trans (hb2.mono (hb.trans (hb1.mono hb.size)).size)⟩
  have h3 := ha.2
  have h4 := hc.1
  omega
theorem Two.add (h : Two w0 w T U l m) (e : En) (hn : l.length ≤ 1000000) : Calls Try.prog 15 #[.pointer (some ⟨T, 0, none⟩), .agg #[.string e.1, .int .i64 e.2]] w fun r w' => r = .returned (.bool (!hasE e l)) ∧ Two w0 w' T U (insE e l) m := by
  obtain ⟨F, G, h1, h2, h3, h4, h5, h6⟩ := h
  refine (AddT_any e w h1 hn).mono fun r w' ⟨k1, k2, k3⟩ => ⟨k1, _, G, k2.tight, h2.far k3 fun a hG hF => h5 a hF hG, fun a ha => ⟨?_, ha.2⟩, fun a ha => ⟨(h4 a ha).1, Nat.lt_of_lt_of_le (h4 a ha).2 k3.size⟩, fun a ha hG => ?_, h6.trans (k3.below h6.size fun a ha => (h3 a ha).1)⟩
  · rcases ha.1 with h7 | h7
    · exact (h3 a h7).1
    · exact Nat.le_trans h6.size h7
  · rcases ha.1 with h7 | h7
    · exact h5 a h7 hG
    · have := (h4 a hG).2
      omega
end
end Go.Proofs.Ytoaekmighinmhaa

namespace Go.Proofs.Ytoaekmighinmhaa
open Go.RowKit

/-- a tree of l, a row of m, blocks of which P says so: apart; tree and row all new since. -/
def BothP (w0 w : World) (T : Nat) (l : List En) (lv : Value) (m : List En) (P : Nat → Prop) : Prop :=
  ∃ (F : Nat → Prop) (B : Nat), TrF F w T l ∧ (∀ a, F a → w0.heap.size ≤ a ∧ a < w.heap.size) ∧ w.ownsRow B 34 2 lv m.length (encEns m) ∧ w0.heap.size ≤ B ∧ (∀ a, F a → lv.ownBlock ≠ some a) ∧ Below w0.heap.size w0 w ∧ (∀ a, F a → ¬ P a) ∧ ∀ a, P a → a < w.heap.size
section
variable {w0 w w' : World} {T X : Nat} {l m m' : List En} {lv v' : Value} {P : Nat → Prop}
theorem BothP.both (h : BothP w0 w T l lv m P) : Both w0 w T l lv m := by
  obtain ⟨F, B, h1, h2, h3, h4, h5, h6, -, -⟩ := h
  exact ⟨F, B, h1, h2, h3, h4, h5, h6⟩
theorem Both.p (h : Both w0 w T l lv m) : BothP w0 w T l lv m (fun _ => False) := by
  obtain ⟨F, B, h1, h2, h3, h4, h5, h6⟩ := h
  exact ⟨F, B, h1, h2, h3, h4, h5, h6, fun _ _ h => h, fun _ h => h.elim⟩
theorem BothP.same (h : BothP w0 w T l lv m P) (hb : Below w.heap.size w w') : BothP w0 w' T l lv m P := by
  obtain ⟨F, B, h1, h2, h3, h4, h5, h6, h7, h8⟩ := h
  exact ⟨F, B, h1.below hb, fun a ha => ⟨(h2 a ha).1, Nat.lt_of_lt_of_le (h2 a ha).2 hb.size⟩, own_keep h3 fun a ha => hb.block a (own_lt h3 ha), h4, h5, h6.trans (hb.mono h6.size), h7, fun a ha => Nat.lt_of_lt_of_le (h8 a ha) hb.size⟩
/-- one block more. -/
theorem BothP.more (h : BothP w0 w T l lv m P) (hb : Below w.heap.size w w') (hX : w.heap.size ≤ X) (hX2 : X < w'.heap.size) : BothP w0 w' T l lv m (fun a => P a ∨ a = X) := by
  obtain ⟨F, B, h1, h2, h3, h4, h5, h6, h7, h8⟩ := h
  refine ⟨F, B, h1.below hb, fun a ha => ⟨(h2 a ha).1, Nat.lt_of_lt_of_le (h2 a ha).2 hb.size⟩, own_keep h3 fun a ha => hb.block a (own_lt h3 ha), h4, h5, h6.trans (hb.mono h6.size), fun a ha hc => ?_, fun a ha => ?_⟩
  · rcases hc with hc | hc
    · exact h7 a ha hc
    · have := (h2 a ha).2
      omega
  · rcases ha with ha | ha
    · exact Nat.lt_of_lt_of_le (h8 a ha) hb.size
    · omega
theorem BothP.with {B' : Nat} (h : BothP w0 w T l lv m P) (ho : OwE w B' v' m' w') : BothP w0 w' T l v' m' P := by
  obtain ⟨F, B, h1, h2, h3, h4, h5, h6, h7, h8⟩ := h
  refine ⟨F, B', h1.below ho.below, fun a ha => ⟨(h2 a ha).1, Nat.lt_of_lt_of_le (h2 a ha).2 ho.below.size⟩, ho.own, Nat.le_trans h6.size ho.le, fun a ha e => ?_, h6.trans (ho.below.mono h6.size), h7, fun a ha => Nat.lt_of_lt_of_le (h8 a ha) ho.below.size⟩
  have q1 := (ho.own.lt a e).1
  have q2 := (h2 a ha).2
  have q3 := ho.le
  omega
theorem BothP.step {F : Nat → Prop} {B : Nat} {l' : List En} (_h1 : TrF F w T l) (h2 : ∀ a, F a → w0.heap.size ≤ a ∧ a < w.heap.size) (h3 : w.ownsRow B 34 2 lv m.length (encEns m)) (h4 : w0.heap.size ≤ B) (h5 : ∀ a, F a → lv.ownBlock ≠ some a) (h6 : Below w0.heap.size w0 w) (h7 : ∀ a, F a → ¬ P a) (h8 : ∀ a, P a → a < w.heap.size)
    (ht : TrF (fun a => F a ∨ w.heap.size ≤ a) w' T l') (hf : Far F w w') : BothP w0 w' T l' lv m P ∧ ∀ a, P a → w'.heap[a]? = w.heap[a]? := by
  refine ⟨⟨_, B, ht.tight, fun a ha => ⟨?_, ha.2⟩, own_keep h3 fun a ha => hf.block a (own_lt h3 ha) fun hF => h5 a hF (vc_ne ha), h4, fun a ha e => ?_, h6.trans (hf.below h6.size fun a ha => (h2 a ha).1), fun a ha hc => ?_, fun a ha => Nat.lt_of_lt_of_le (h8 a ha) hf.size⟩, fun a ha => hf.block a (h8 a ha) fun hF => h7 a hF ha⟩
  · rcases ha.1 with q | q
    · exact (h2 a q).1
    · exact Nat.le_trans h6.size q
  · rcases ha.1 with q | q
    · exact h5 a q e
    · have := (h3.lt a e).2
      omega
  · rcases ha.1 with q | q
    · exact h7 a q hc
    · have := h8 a hc
      omega
theorem BothP.add (h : BothP w0 w T l lv m P) (e : En) (hn : l.length ≤ 1000000) : Calls Try.prog 15 #[.pointer (some ⟨T, 0, none⟩), .agg #[.string e.1, .int .i64 e.2]] w fun r w' => r = .returned (.bool (!hasE e l)) ∧ BothP w0 w' T (insE e l) lv m P ∧ ∀ a, P a → w'.heap[a]? = w.heap[a]? := by
  obtain ⟨F, B, h1, h2, h3, h4, h5, h6, h7, h8⟩ := h
  exact (AddT_any e w h1 hn).mono fun r w' ⟨k1, k2, k3⟩ => ⟨k1, BothP.step h1 h2 h3 h4 h5 h6 h7 h8 k2 k3⟩
theorem BothP.del (h : BothP w0 w T l lv m P) (e : En) (hn : l.length ≤ 1000000) : Calls Try.prog 16 #[.pointer (some ⟨T, 0, none⟩), .agg #[.string e.1, .int .i64 e.2]] w fun r w' => r = .returned (.bool (hasE e l)) ∧ BothP w0 w' T (delE e l) lv m P ∧ ∀ a, P a → w'.heap[a]? = w.heap[a]? := by
  obtain ⟨F, B, h1, h2, h3, h4, h5, h6, h7, h8⟩ := h
  exact (DelT_any e w h1 hn).mono fun r w' ⟨k1, k2, k3⟩ => ⟨k1, BothP.step h1 h2 h3 h4 h5 h6 h7 h8 k2 k3⟩
theorem BothP.With (h : BothP w0 w T l lv m P) (e : En) (inn : Bool) (hn : m.length ≤ 100000) : Calls Try.prog 13 #[lv, .agg #[.string e.1, .int .i64 e.2], .bool inn] w fun r w' => ∃ v', r = .returned (.tuple #[v', .bool (hasE e m != inn)]) ∧ BothP w0 w' T l v' (withL e (!inn) m) P ∧ Below w.heap.size w w' := by
  obtain ⟨B, hr⟩ := h.both.row
  exact (With_any m lv B e inn w hr hn).mono fun r w' ⟨v', k1, k2⟩ => ⟨v', k1, h.with k2, k2.below⟩
end
end Go.Proofs.Ytoaekmighinmhaa

namespace Go.Proofs.Ytoaekmighinmhaa
open Go.RowKit

theorem ent_low (e : Ac) (h : e.ok) : minI ≤ e.ent.2 := by
  have h1 := h.2.2.2.2.1
  show minI ≤ e.id % 24 - 3
  have : (0 : Int) ≤ e.id % 24 := Int.emod_nonneg _ (by decide)
  unfold minI; omega
/-- keys below "z". -/
def ZE (l : List En) : Prop := ∀ x ∈ l, cmpT x.1 ⟨#[122]⟩ < 0
theorem ze_nil : ZE [] := fun _ h => by cases h
theorem ze_ins {e : En} {l : List En} (h : ZE l) (he : cmpT e.1 ⟨#[122]⟩ < 0) : ZE (insE e l) := fun x hx => by
  rcases mem_insE.1 hx with h1 | h1
  · rw [h1]; exact he
  · exact h x h1
theorem ze_del {e : En} {l : List En} (h : ZE l) : ZE (delE e l) := fun x hx => h x (mem_delE.1 hx).1
theorem ent_z (e : Ac) : cmpT e.ent.1 ⟨#[122]⟩ < 0 := by
  show cmpT ⟨#[UInt8.ofNat (97 + e.key % 6).toNat]⟩ ⟨#[122]⟩ < 0
  have h : e.key % 6 = 0 ∨ e.key % 6 = 1 ∨ e.key % 6 = 2 ∨ e.key % 6 = 3 ∨ e.key % 6 = 4 ∨ e.key % 6 = 5 := by omega
  rcases h with h | h | h | h | h | h <;> rw [h] <;> decide +kernel
theorem len_ins (e : En) (l : List En) : (insE e l).length ≤ l.length + 1 := len_with e false l
theorem len_del (e : En) (l : List En) : (delE e l).length ≤ l.length := len_withT e l
set_option maxRecDepth 100000 in
set_option maxHeartbeats 4000000 in
theorem laid2_any (v0 : Value) (acts : List Ac) (w : World) (ha : ActsAt w v0 acts) :
    Calls Try.prog 10 #[v0] w fun r w' => ∃ T lv l, r = .returned (.tuple #[.pointer (some ⟨T, 0, none⟩), lv]) ∧ Both w w' T l lv l ∧ l.length ≤ 60 ∧ LowE l ∧ ZE l := by
  obtain ⟨a, cap, rfl, hc1, hc2⟩ := ha.slice
  have hat := ha.take 60
  obtain ⟨N, hN⟩ : ∃ N, min 60 acts.length = N := ⟨_, rfl⟩
  rw [hN] at hat
  have hNl : (acts.take 60).length = N := by rw [List.length_take, hN]
  obtain ⟨al, has⟩ : ∃ al, acts.take 60 = al := ⟨_, rfl⟩
  rw [has] at hat hNl
  have hm0 : 0 ≤ min (acts.length : Int) 60 := by omega
  have hm1 : min (acts.length : Int) 60 ≤ (cap : Int) := by omega
  have hmn : (min (acts.length : Int) 60).toNat = N := by omega
  have hN80 : N ≤ 60 := by omega
  have HH := (show Hid _ from And.intro hat hNl)
  clear hat ha has hN hNl
  go_enter Try.func10, Try.ntmps10
  go_wp2_with fail
  refine (New_any w).mono ?_
  rintro e w2 ⟨T, rfl, ht2, hb2⟩
  have H2 : Hid (Both w w2 T [] (.slice none 0 0) []) := Both.new (Below.refl _ _) ht2 hb2
  clear ht2 hb2
  go_wp2_with fail
  go_loopg [5, 7, 15] N (fun gg lv _ i wr => ∃ (k : Nat) (l : List En), k ≤ N ∧ N - k ≤ gg ∧ i = .int .i64 k ∧ Aside (Both w wr T l lv l ∧ l.length ≤ k ∧ LowE l ∧ ZE l))
  case atStart => exact ⟨0, [], Nat.zero_le _, by omega, rfl, H2.out, Nat.le_refl _, low_nil, ze_nil⟩
  case round =>
    obtain ⟨k, l, hk, hgg, rfl, A⟩ := hrel
    obtain ⟨hT, hl, hlow⟩ := A.out
    clear A H2
    by_cases hlt : k < N
    · obtain ⟨hat, hNl⟩ := HH.out
      obtain ⟨⟨kd, ky, id⟩, he⟩ : ∃ e, al[k]? = some e := ⟨_, List.getElem?_eq_getElem (by omega)⟩
      obtain ⟨b, o, rfl, hok, c0, c1, c2⟩ := (hat.below hT.below).at he
      simp only at c0 c1 c2
      have zk : (k : Int) < (N : Int) := by omega
      obtain ⟨W4, hW4, hb4, hs4, m0, m1, m2⟩ := boxA_any wr kd ky id
      have hent := Ent_any ⟨kd, ky, id⟩ hok
      have hei := And.intro (ent_low ⟨kd, ky, id⟩ hok) (ent_z ⟨kd, ky, id⟩)
      obtain ⟨ek, ei, hee⟩ : ∃ ek ei, Ac.ent ⟨kd, ky, id⟩ = (ek, ei) := ⟨_, _, rfl⟩
      rw [hee] at hent hei
      have HE := (show Hid _ from And.intro hent hei)
      have H4 : Hid (Both w W4 T l _ l ∧ l.length ≤ k ∧ LowE l ∧ ZE l) := ⟨hT.same hb4, hl, hlow⟩
      have HK := (show Hid _ from And.intro hk hgg)
      have P0 := fun (w' : World) (h : w'.heap[wr.heap.size]? = W4.heap[wr.heap.size]?) => (World.cell?_of_block (a := ⟨wr.heap.size, 0, none⟩) h).trans m0
      have P1 := fun (w' : World) (h : w'.heap[wr.heap.size]? = W4.heap[wr.heap.size]?) => (World.cell?_of_block (a := ⟨wr.heap.size, 1, none⟩) h).trans m1
      have P2 := fun (w' : World) (h : w'.heap[wr.heap.size]? = W4.heap[wr.heap.size]?) => (World.cell?_of_block (a := ⟨wr.heap.size, 2, none⟩) h).trans m2
      have HP := (show Hid _ from And.intro P0 (And.intro P1 P2))
      have h0 : (fun w' : World => w'.heap[wr.heap.size]? = W4.heap[wr.heap.size]?) W4.drew := rfl
      clear hat hNl he hT hl hlow hb4 hent hei hok hk hgg hee m0 m1 m2
      by_cases hkd : kd < 180
      · have hkd3 : decide (kd < 180) = true := decide_eq_true hkd
        go_wp2_with fail
        refine wp_region_held (S := fun w' => w'.heap[wr.heap.size]? = W4.heap[wr.heap.size]?) mixed ?_
        refine wpAnyH_take (i := 0) (oi := ⟨_, _, _, _, _, _⟩) (v := ?v1) rfl (by kernel_rfl) (by kernel_rfl) (by kernel_rfl) (fun _ _ _ h => h) (Or.inl ⟨by rfl, ?hy1⟩) h0 ?rest1
        case hy1 => (intro w hSw; (try dsimp only at hSw); go_simp; try with_reducible rfl)
        simp only [Act.put, List.setIfInBounds_toArray, List.set_cons_zero, List.set_cons_succ]
        refine wpAnyH_take (i := 1) (oi := ⟨_, _, _, _, _, _⟩) (v := ?v2) rfl (by kernel_rfl) (by kernel_rfl) (by kernel_rfl) (fun _ _ _ h => h) (Or.inl ⟨by rfl, ?hy2⟩) h0 ?rest2
        case hy2 => (intro w hSw; (try dsimp only at hSw); go_simp; try with_reducible rfl)
        simp only [Act.put, List.setIfInBounds_toArray, List.set_cons_zero, List.set_cons_succ]
        refine wpAnyH_take (i := 3) (oi := ⟨_, _, _, _, _, _⟩) (v := ?v3) rfl (by kernel_rfl) (by kernel_rfl) (by kernel_rfl) (fun _ _ _ h => h) (Or.inl ⟨by rfl, ?hy3⟩) h0 ?rest3
        case hy3 => (intro w hSw; (try dsimp only at hSw); go_simp; try with_reducible rfl)
        simp only [Act.put, List.setIfInBounds_toArray, List.set_cons_zero, List.set_cons_succ]
        refine wpAnyH_take (i := 4) (oi := ⟨_, _, _, _, _, _⟩) (v := ?v4) rfl (by kernel_rfl) (by kernel_rfl) (by kernel_rfl) (fun _ _ _ h => h) (Or.inl ⟨by rfl, ?hy4⟩) h0 ?rest4
        case hy4 => (intro w hSw; (try dsimp only at hSw); go_simp; try with_reducible rfl)
        simp only [Act.put, List.setIfInBounds_toArray, List.set_cons_zero, List.set_cons_succ]
        refine wpAnyH_take (i := 5) (oi := ⟨_, _, _, _, _, _⟩) (v := ?v5) rfl (by kernel_rfl) (by kernel_rfl) (by kernel_rfl) (fun _ _ _ h => h) (Or.inl ⟨by rfl, ?hy5⟩) h0 ?rest5
        case hy5 => (intro w hSw; (try dsimp only at hSw); go_simp; try with_reducible rfl)
        simp only [Act.put, List.setIfInBounds_toArray, List.set_cons_zero, List.set_cons_succ]
        refine wpAnyH_ready (rs := [2]) (by kernel_rfl) (by simp) ?_
        refine AllReadyH.cons (o := ⟨_, _, _, _, _, _⟩) rfl (fun K hK => ?_) AllReadyH.nil
        go_simp
        refine Calls.mono (HE.out.1 W4.drew) ?_
        rintro e w5 ⟨rfl, hb5⟩
        have h5 : w5.heap[wr.heap.size]? = W4.heap[wr.heap.size]? := hb5.block _ (show wr.heap.size < W4.heap.size by omega)
        have hB5 := H4.out.1.same (Below.drop_drew hb5)
        have hsz5 : W4.heap.size ≤ w5.heap.size := hb5.size
        clear hb5
        refine hK.out _ _ h5 (fun hHeld => ?_)
        clear hK K hHeld
        try simp only [Act.put, List.setIfInBounds_toArray, List.set_cons_zero, List.set_cons_succ]
        refine wpAnyH_ready (rs := [6]) (by kernel_rfl) (by simp) ?_
        refine AllReadyH.cons (o := ⟨_, _, _, _, _, _⟩) rfl (fun K hK => ?_) AllReadyH.nil
        go_simp
        refine Calls.mono (hB5.With (ek, ei) true (by have := H4.out.2.1; omega)) ?_
        rintro e w6 ⟨v6, rfl, hB6, hb6⟩
        have h6 : w6.heap[wr.heap.size]? = W4.heap[wr.heap.size]? := (hb6.block _ (show wr.heap.size < w5.heap.size by omega)).trans h5
        have H6 : Hid (Both w w6 T l v6 (insE (ek, ei) l)) := hB6
        have hsz6 : w5.heap.size ≤ w6.heap.size := hb6.size
        clear hB5 hB6 hb6
        refine hK.out _ _ h6 (fun hHeld => ?_)
        clear hK K hHeld
        try simp only [Act.put, List.setIfInBounds_toArray, List.set_cons_zero, List.set_cons_succ]
        refine wpAnyH_take (i := 7) (oi := ⟨_, _, _, _, _, _⟩) (v := ?v6) rfl (by kernel_rfl) (by kernel_rfl) (by kernel_rfl) (fun _ _ _ h => h) (Or.inl ⟨by rfl, ?hy6⟩) h6 ?rest6
        case hy6 => (intro w hSw; (try dsimp only at hSw); go_simp; try with_reducible rfl)
        simp only [Act.put, List.setIfInBounds_toArray, List.set_cons_zero, List.set_cons_succ]
        refine wpAnyH_take (i := 8) (oi := ⟨_, _, _, _, _, _⟩) (v := ?v7) rfl (by kernel_rfl) (by kernel_rfl) (by kernel_rfl) (fun _ _ _ h => h) (Or.inl ⟨by rfl, ?hy7⟩) h6 ?rest7
        case hy7 => (intro w hSw; (try dsimp only at hSw); go_simp; try with_reducible rfl)
        simp only [Act.put, List.setIfInBounds_toArray, List.set_cons_zero, List.set_cons_succ]
        refine wpAnyH_take (i := 9) (oi := ⟨_, _, _, _, _, _⟩) (v := ?v8) rfl (by kernel_rfl) (by kernel_rfl) (by kernel_rfl) (fun _ _ _ h => h) (Or.inl ⟨by rfl, ?hy8⟩) h6 ?rest8
        case hy8 => (intro w hSw; (try dsimp only at hSw); go_simp; try with_reducible rfl)
        simp only [Act.put, List.setIfInBounds_toArray, List.set_cons_zero, List.set_cons_succ]
        refine wpAnyH_ready (rs := [10]) (by kernel_rfl) (by simp) ?_
        refine AllReadyH.cons (o := ⟨_, _, _, _, _, _⟩) rfl (fun K hK => ?_) AllReadyH.nil
        go_simp
        refine hK.out _ _ h6 (fun hHeld => ?_)
        clear hK K hHeld
        try simp only [Act.put, List.setIfInBounds_toArray, List.set_cons_zero, List.set_cons_succ]
        refine wpAnyH_done (by kernel_rfl) ?_ _
        have q0 := HP.out.1 w6 h6
        have q1 := HP.out.2.1 w6 h6
        have q2 := HP.out.2.2 w6 h6
        clear P0 P1 P2 h0 h5
        go_wp2_with fail
        refine Calls.mono (HE.out.1 w6) ?_
        rintro e w7 ⟨rfl, hb7⟩
        have H7 := (show Hid _ from Both.same H6.out hb7)
        clear H6 q0 q1 q2 h6 hb7 HP
        go_wp2_with fail
        refine Calls.mono (Both.add H7.out (ek, ei) (by have := H4.out.2.1; omega)) ?_
        rintro e w8 ⟨rfl, hB8⟩
        have H8 : Hid (Both w w8 T (insE (ek, ei) l) v6 (insE (ek, ei) l) ∧ (insE (ek, ei) l).length ≤ k + 1 ∧ LowE (insE (ek, ei) l) ∧ ZE (insE (ek, ei) l)) := ⟨hB8, by have := H4.out.2.1; have := len_ins (ek, ei) l; omega, low_ins H4.out.2.2.1 HE.out.2.1, ze_ins H4.out.2.2.2 HE.out.2.2⟩
        clear H7 H4 HE hB8
        go_wp2
        go_roundg (N - (k + 1))
        case measure => (have := HK.out; clear hm0 hm1 hmn; omega)
        case rel =>
          obtain ⟨z1, z2⟩ := HK.out
          clear HH hm0 hm1 hmn
          exact ⟨k + 1, insE (ek, ei) l, by omega, by omega, by simp, H8.out⟩
      · have hkd3 : decide (kd < 180) = false := decide_eq_false hkd
        go_wp2_with fail
        refine wp_region_held (S := fun w' => w'.heap[wr.heap.size]? = W4.heap[wr.heap.size]?) mixed ?_
        refine wpAnyH_take (i := 0) (oi := ⟨_, _, _, _, _, _⟩) (v := ?v9) rfl (by kernel_rfl) (by kernel_rfl) (by kernel_rfl) (fun _ _ _ h => h) (Or.inl ⟨by rfl, ?hy9⟩) h0 ?rest9
        case hy9 => (intro w hSw; (try dsimp only at hSw); go_simp; try with_reducible rfl)
        simp only [Act.put, List.setIfInBounds_toArray, List.set_cons_zero, List.set_cons_succ]
        refine wpAnyH_take (i := 1) (oi := ⟨_, _, _, _, _, _⟩) (v := ?v10) rfl (by kernel_rfl) (by kernel_rfl) (by kernel_rfl) (fun _ _ _ h => h) (Or.inl ⟨by rfl, ?hy10⟩) h0 ?rest10
        case hy10 => (intro w hSw; (try dsimp only at hSw); go_simp; try with_reducible rfl)
        simp only [Act.put, List.setIfInBounds_toArray, List.set_cons_zero, List.set_cons_succ]
        refine wpAnyH_take (i := 3) (oi := ⟨_, _, _, _, _, _⟩) (v := ?v11) rfl (by kernel_rfl) (by kernel_rfl) (by kernel_rfl) (fun _ _ _ h => h) (Or.inl ⟨by rfl, ?hy11⟩) h0 ?rest11
        case hy11 => (intro w hSw; (try dsimp only at hSw); go_simp; try with_reducible rfl)
        simp only [Act.put, List.setIfInBounds_toArray, List.set_cons_zero, List.set_cons_succ]
        refine wpAnyH_take (i := 4) (oi := ⟨_, _, _, _, _, _⟩) (v := ?v12) rfl (by kernel_rfl) (by kernel_rfl) (by kernel_rfl) (fun _ _ _ h => h) (Or.inl ⟨by rfl, ?hy12⟩) h0 ?rest12
        case hy12 => (intro w hSw; (try dsimp only at hSw); go_simp; try with_reducible rfl)
        simp only [Act.put, List.setIfInBounds_toArray, List.set_cons_zero, List.set_cons_succ]
        refine wpAnyH_take (i := 5) (oi := ⟨_, _, _, _, _, _⟩) (v := ?v13) rfl (by kernel_rfl) (by kernel_rfl) (by kernel_rfl) (fun _ _ _ h => h) (Or.inl ⟨by rfl, ?hy13⟩) h0 ?rest13
        case hy13 => (intro w hSw; (try dsimp only at hSw); go_simp; try with_reducible rfl)
        simp only [Act.put, List.setIfInBounds_toArray, List.set_cons_zero, List.set_cons_succ]
        refine wpAnyH_ready (rs := [2]) (by kernel_rfl) (by simp) ?_
        refine AllReadyH.cons (o := ⟨_, _, _, _, _, _⟩) rfl (fun K hK => ?_) AllReadyH.nil
        go_simp
        refine Calls.mono (HE.out.1 W4.drew) ?_
        rintro e w5 ⟨rfl, hb5⟩
        have h5 : w5.heap[wr.heap.size]? = W4.heap[wr.heap.size]? := hb5.block _ (show wr.heap.size < W4.heap.size by omega)
        have hB5 := H4.out.1.same (Below.drop_drew hb5)
        have hsz5 : W4.heap.size ≤ w5.heap.size := hb5.size
        clear hb5
        refine hK.out _ _ h5 (fun hHeld => ?_)
        clear hK K hHeld
        try simp only [Act.put, List.setIfInBounds_toArray, List.set_cons_zero, List.set_cons_succ]
        refine wpAnyH_ready (rs := [6]) (by kernel_rfl) (by simp) ?_
        refine AllReadyH.cons (o := ⟨_, _, _, _, _, _⟩) rfl (fun K hK => ?_) AllReadyH.nil
        go_simp
        refine Calls.mono (hB5.With (ek, ei) false (by have := H4.out.2.1; omega)) ?_
        rintro e w6 ⟨v6, rfl, hB6, hb6⟩
        have h6 : w6.heap[wr.heap.size]? = W4.heap[wr.heap.size]? := (hb6.block _ (show wr.heap.size < w5.heap.size by omega)).trans h5
        have H6 : Hid (Both w w6 T l v6 (delE (ek, ei) l)) := hB6
        have hsz6 : w5.heap.size ≤ w6.heap.size := hb6.size
        clear hB5 hB6 hb6
        refine hK.out _ _ h6 (fun hHeld => ?_)
        clear hK K hHeld
        try simp only [Act.put, List.setIfInBounds_toArray, List.set_cons_zero, List.set_cons_succ]
        refine wpAnyH_take (i := 7) (oi := ⟨_, _, _, _, _, _⟩) (v := ?v14) rfl (by kernel_rfl) (by kernel_rfl) (by kernel_rfl) (fun _ _ _ h => h) (Or.inl ⟨by rfl, ?hy14⟩) h6 ?rest14
        case hy14 => (intro w hSw; (try dsimp only at hSw); go_simp; try with_reducible rfl)
        simp only [Act.put, List.setIfInBounds_toArray, List.set_cons_zero, List.set_cons_succ]
        refine wpAnyH_take (i := 8) (oi := ⟨_, _, _, _, _, _⟩) (v := ?v15) rfl (by kernel_rfl) (by kernel_rfl) (by kernel_rfl) (fun _ _ _ h => h) (Or.inl ⟨by rfl, ?hy15⟩) h6 ?rest15
        case hy15 => (intro w hSw; (try dsimp only at hSw); go_simp; try with_reducible rfl)
        simp only [Act.put, List.setIfInBounds_toArray, List.set_cons_zero, List.set_cons_succ]
        refine wpAnyH_take (i := 9) (oi := ⟨_, _, _, _, _, _⟩) (v := ?v16) rfl (by kernel_rfl) (by kernel_rfl) (by kernel_rfl) (fun _ _ _ h => h) (Or.inl ⟨by rfl, ?hy16⟩) h6 ?rest16
        case hy16 => (intro w hSw; (try dsimp only at hSw); go_simp; try with_reducible rfl)
        simp only [Act.put, List.setIfInBounds_toArray, List.set_cons_zero, List.set_cons_succ]
        refine wpAnyH_ready (rs := [10]) (by kernel_rfl) (by simp) ?_
        refine AllReadyH.cons (o := ⟨_, _, _, _, _, _⟩) rfl (fun K hK => ?_) AllReadyH.nil
        go_simp
        refine hK.out _ _ h6 (fun hHeld => ?_)
        clear hK K hHeld
        try simp only [Act.put, List.setIfInBounds_toArray, List.set_cons_zero, List.set_cons_succ]
        refine wpAnyH_done (by kernel_rfl) ?_ _
        have q0 := HP.out.1 w6 h6
        have q1 := HP.out.2.1 w6 h6
        have q2 := HP.out.2.2 w6 h6
        clear P0 P1 P2 h0 h5
        go_wp2_with fail
        refine Calls.mono (HE.out.1 w6) ?_
        rintro e w7 ⟨rfl, hb7⟩
        have H7 := (show Hid _ from Both.same H6.out hb7)
        clear H6 q0 q1 q2 h6 hb7 HP
        go_wp2_with fail
        refine Calls.mono (Both.del H7.out (ek, ei) (by have := H4.out.2.1; omega)) ?_
        rintro e w8 ⟨rfl, hB8⟩
        have H8 : Hid (Both w w8 T (delE (ek, ei) l) v6 (delE (ek, ei) l) ∧ (delE (ek, ei) l).length ≤ k + 1 ∧ LowE (delE (ek, ei) l) ∧ ZE (delE (ek, ei) l)) := ⟨hB8, by have := H4.out.2.1; have := len_del (ek, ei) l; omega, low_del H4.out.2.2.1, ze_del H4.out.2.2.2⟩
        clear H7 H4 HE hB8
        go_wp2
        go_roundg (N - (k + 1))
        case measure => (have := HK.out; clear hm0 hm1 hmn; omega)
        case rel =>
          obtain ⟨z1, z2⟩ := HK.out
          clear HH hm0 hm1 hmn
          exact ⟨k + 1, delE (ek, ei) l, by omega, by omega, by simp, H8.out⟩
    · obtain rfl : N = k := by omega
      have HT := (show Hid _ from And.intro hT (And.intro hl hlow))
      have zk : ¬ (N : Int) < (N : Int) := by omega
      clear hT hl hlow hk hgg hlt hm0 hm1 hmn
      go_wp2
      go_ret2
      exact ⟨T, _, rfl, l, HT.out.1, Nat.le_trans HT.out.2.1 hN80, HT.out.2.2⟩
theorem laid_any (v0 : Value) (acts : List Ac) (w : World) (ha : ActsAt w v0 acts) :
    Calls Try.prog 10 #[v0] w fun r w' => ∃ T lv l, r = .returned (.tuple #[.pointer (some ⟨T, 0, none⟩), lv]) ∧ Both w w' T l lv l ∧ l.length ≤ 60 ∧ LowE l :=
  (laid2_any v0 acts w ha).mono fun _r _w' ⟨T, lv, l, h1, h2, h3, h4, _⟩ => ⟨T, lv, l, h1, h2, h3, h4⟩
end Go.Proofs.Ytoaekmighinmhaa
