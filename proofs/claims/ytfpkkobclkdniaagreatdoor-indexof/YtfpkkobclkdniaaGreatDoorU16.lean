/-
  Trees of nodes: what a change of one kid, of two beside one another, of an entry between them is to all entries. No conditions beyond those stated.
  Rows of entries and of pointers to nodes that a caller owns. No conditions beyond those stated.
  Nodes of a tree as they lie in memory: each block is one node's alone, or one slice's. What a deed on one node, on some beside one another, on one kid is to the tree. No conditions beyond those stated.
  Some nodes beside one another, step by step; a node and some of its kids become others, all below them as it was. No conditions beyond those stated.
  compare, place, leaf, spares by their contracts. No conditions beyond those stated.
  Where an entry stands among a node's: slices.BinarySearchFunc, place, leaf by their contracts. No conditions beyond those stated.
  Has a node an entry, and where: place, leaf by their contracts. No conditions beyond those stated.
  The law's Texts, Below and Entry by their contracts. No conditions.
  slices.Insert at entries that a caller owns: without room, and with it, in the midst and at the end. Conditions: as stated.
-/
import Derived.Test.YtfpkkobclkdniaaGreatDoorU1
import Derived.Test.YtfpkkobclkdniaaGreatDoorU3
import Derived.Test.YtfpkkobclkdniaaGreatDoorU15
import Derived.Deep.RegionLaw
import Derived.Lib.AppendZeros
import Derived.Lib.AppendZerosOnto
import Derived.Lib.SlBuf
import Derived.Lib.Overlaps
import Derived.Deep.AppendLies
import Derived.Laws.OwnMore
import Derived.Shelf.Abstract
import Derived.Deep.LoopGhost
import Derived.Lib.QuietBelow
import Derived.BigQuiet
import Derived.Deep.RegionHeld3
import Derived.Deep.DrawnRows
namespace Go.Proofs.YtfpkkobclkdniaaGreatDoor

theorem inter_app : ∀ (A : List En) (KA : List (List En)) (e : En) (B : List En) (KB : List (List En)), KA.length = A.length + 1 → inter (A ++ e :: B) (KA ++ KB) = inter A KA ++ e :: inter B KB
  | [], [k], e, B, KB, _ => by simp [inter]
  | [], [], _, _, _, h => by simp at h
  | [], _ :: _ :: _, _, _, _, h => by simp at h
  | a :: A, [], _, _, _, h => by simp at h
  | a :: A, k :: KA, e, B, KB, h => by
    have ih := inter_app A KA e B KB (by simpa using h)
    simp only [List.cons_append, inter, ih, List.append_assoc]
/-- what stands left of a kid, and right of it. -/
def lftN (i : Nat) (es : List En) (ks : List (List En)) : List En :=
  match i with
  | 0 => []
  | i + 1 => inter (es.take i) (ks.take (i + 1)) ++ (es[i]?).toList
def rgtN (i : Nat) (es : List En) (ks : List (List En)) : List En :=
  match es[i]? with
  | none => []
  | some e => e :: inter (es.drop (i + 1)) (ks.drop (i + 1))
theorem lft_succ {i : Nat} {es : List En} {ks : List (List En)} : lftN (i + 1) es ks = inter (es.take i) (ks.take (i + 1)) ++ (es[i]?).toList := rfl
theorem inter_one (k : List En) : inter [] [k] = k := by simp [inter]
/-- ahead of a place: the entries and kids, the kid there, and what follows. -/
theorem inter_kid {es : List En} {ks : List (List En)} {i : Nat} {k : List En} (h : ks.length = es.length + 1) (hk : ks[i]? = some k) : inter es ks = lftN i es ks ++ k ++ rgtN i es ks := by
  have hi := (List.getElem?_eq_some_iff.1 hk).1
  -- from the kid on
  have key : inter (es.drop i) (ks.drop i) = k ++ rgtN i es ks := by
    have hkd : ks.drop i = k :: ks.drop (i + 1) := by
      have h1 := List.drop_eq_getElem_cons hi
      rw [(List.getElem?_eq_some_iff.1 hk).2] at h1
      exact h1
    rw [hkd]
    unfold rgtN
    cases he : es[i]? with
    | none =>
      have h2 : es.length ≤ i := List.getElem?_eq_none_iff.1 he
      have h3 : ks.drop (i + 1) = [] := List.drop_of_length_le (by omega)
      rw [List.drop_of_length_le h2, h3]
      simp [inter]
    | some e =>
      have h2 := (List.getElem?_eq_some_iff.1 he).1
      have h3 := List.drop_eq_getElem_cons h2
      rw [(List.getElem?_eq_some_iff.1 he).2] at h3
      rw [h3]
      rfl
  cases i with
  | zero => simpa [lftN] using key
  | succ i =>
    have hie : i < es.length := by omega
    have h1 : es = es.take i ++ es[i] :: es.drop (i + 1) := by rw [← List.drop_eq_getElem_cons hie, List.take_append_drop]
    have h2 : ks = ks.take (i + 1) ++ ks.drop (i + 1) := (List.take_append_drop _ _).symm
    have h3 := inter_app (es.take i) (ks.take (i + 1)) es[i] (es.drop (i + 1)) (ks.drop (i + 1)) (by simp; omega)
    rw [← h1, ← h2] at h3
    rw [h3, key]
    rw [lft_succ, List.getElem?_eq_getElem hie]
    simp [List.append_assoc]
theorem lft_set {es : List En} {ks : List (List En)} {i j : Nat} {k : List En} (h : i ≤ j) : lftN i es (ks.set j k) = lftN i es ks := by
  cases i with
  | zero => rfl
  | succ i =>
    rw [lft_succ, lft_succ, List.take_set_of_le (by omega)]
theorem rgt_set {es : List En} {ks : List (List En)} {i j : Nat} {k : List En} (h : j ≤ i) : rgtN i es (ks.set j k) = rgtN i es ks := by
  unfold rgtN
  rw [List.drop_set_of_lt (by omega)]
/-- another kid in a kid's place. -/
theorem inter_set {es : List En} {ks : List (List En)} {i : Nat} {k : List En} (h : ks.length = es.length + 1) (hi : i < ks.length) : inter es (ks.set i k) = lftN i es ks ++ k ++ rgtN i es ks := by
  have := inter_kid (es := es) (ks := ks.set i k) (i := i) (k := k) (by simpa using h) (by simp [hi])
  rw [this, lft_set (Nat.le_refl _), rgt_set (Nat.le_refl _)]
/-- right of a kid: an entry, the next kid, and what is right of that. -/
theorem rgt_step {es : List En} {ks : List (List En)} {i : Nat} {e : En} {k : List En} (h : ks.length = es.length + 1) (he : es[i]? = some e) (hk : ks[i + 1]? = some k) : rgtN i es ks = e :: k ++ rgtN (i + 1) es ks := by
  have hkl := (List.getElem?_eq_some_iff.1 hk).1
  conv => lhs; unfold rgtN
  rw [he]
  simp only [List.cons_append]
  congr 1
  have h1 := inter_kid (es := es.drop (i + 1)) (ks := ks.drop (i + 1)) (i := 0) (k := k) (by simp; omega) (by simpa using hk)
  rw [h1]
  show [] ++ k ++ rgtN 0 (es.drop (i + 1)) (ks.drop (i + 1)) = _
  rw [List.nil_append]
  congr 1
  unfold rgtN
  simp
/-- all up to a kid, all from a kid on, with another one in its place. -/
theorem inter_left {es : List En} {ks : List (List En)} {i : Nat} {a : List En} (h : ks.length = es.length + 1) (hi : i < ks.length) : inter (es.take i) (ks.take i ++ [a]) = lftN i es ks ++ a := by
  have hlk : (ks.take i).length = i := by rw [List.length_take]; omega
  have hle : (es.take i).length = i := by rw [List.length_take]; omega
  have h1 := inter_kid (es := es.take i) (ks := ks.take i ++ [a]) (i := i) (k := a) (by rw [List.length_append, hlk, hle]; rfl) (by rw [List.getElem?_append_right (by omega), hlk]; simp)
  have h2 : rgtN i (es.take i) (ks.take i ++ [a]) = [] := by unfold rgtN; rw [List.getElem?_eq_none (by omega)]
  have h3 : lftN i (es.take i) (ks.take i ++ [a]) = lftN i es ks := by
    cases i with
    | zero => rfl
    | succ i =>
      rw [lft_succ, lft_succ, List.take_take, Nat.min_eq_left (by omega), List.take_append_of_le_length (by omega), List.take_take, Nat.min_self, List.getElem?_take, if_pos (by omega)]
  rw [h1, h2, h3, List.append_nil]
theorem inter_right {es : List En} {ks : List (List En)} {i : Nat} {b : List En} (h : ks.length = es.length + 1) (hi : i < ks.length) : inter (es.drop i) (b :: ks.drop (i + 1)) = b ++ rgtN i es ks := by
  have h1 := inter_kid (es := es.drop i) (ks := b :: ks.drop (i + 1)) (i := 0) (k := b) (by simp; omega) rfl
  rw [h1]
  show [] ++ b ++ rgtN 0 (es.drop i) (b :: ks.drop (i + 1)) = _
  rw [List.nil_append]
  congr 1
  unfold rgtN
  simp
/-- a kid is parted: an entry between its halves. -/
theorem inter_split {es : List En} {ks : List (List En)} {i : Nat} {a b : List En} {m : En} (h : ks.length = es.length + 1) (hi : i < ks.length) :
    inter (es.take i ++ m :: es.drop i) (ks.take i ++ a :: b :: ks.drop (i + 1)) = lftN i es ks ++ (a ++ m :: b) ++ rgtN i es ks := by
  have hlk : (ks.take i).length = i := by rw [List.length_take]; omega
  have hle : (es.take i).length = i := by rw [List.length_take]; omega
  have h1 := inter_app (es.take i) (ks.take i ++ [a]) m (es.drop i) (b :: ks.drop (i + 1)) (by rw [List.length_append, hlk, hle]; rfl)
  rw [List.append_assoc] at h1
  rw [inter_left h hi, inter_right h hi] at h1
  simpa [List.append_assoc] using h1
/-- two kids beside one another, and the entry between them, are other ones. -/
theorem inter_turn {es : List En} {ks : List (List En)} {i : Nat} {a b : List En} {m : En} (h : ks.length = es.length + 1) (hi : i < es.length) :
    inter (es.take i ++ m :: es.drop (i + 1)) (ks.take i ++ a :: b :: ks.drop (i + 2)) = lftN i es ks ++ (a ++ m :: b) ++ rgtN (i + 1) es ks := by
  have hlk : (ks.take i).length = i := by rw [List.length_take]; omega
  have hle : (es.take i).length = i := by rw [List.length_take]; omega
  have h1 := inter_app (es.take i) (ks.take i ++ [a]) m (es.drop (i + 1)) (b :: ks.drop (i + 2)) (by rw [List.length_append, hlk, hle]; rfl)
  rw [List.append_assoc] at h1
  rw [inter_left h (by omega), inter_right (i := i + 1) h (by omega)] at h1
  simpa [List.append_assoc] using h1
/-- two kids beside one another become one. -/
theorem inter_join {es : List En} {ks : List (List En)} {i : Nat} {c : List En} (h : ks.length = es.length + 1) (hi : i < es.length) :
    inter (es.take i ++ es.drop (i + 1)) (ks.take i ++ c :: ks.drop (i + 2)) = lftN i es ks ++ c ++ rgtN (i + 1) es ks := by
  have hlk : (ks.take i).length = i := by rw [List.length_take]; omega
  have hle : (es.take i).length = i := by rw [List.length_take]; omega
  have h1 := inter_kid (es := es.take i ++ es.drop (i + 1)) (ks := ks.take i ++ c :: ks.drop (i + 2)) (i := i) (k := c) (by simp; omega) (by rw [List.getElem?_append_right (by omega), hlk]; simp)
  have h2 : rgtN i (es.take i ++ es.drop (i + 1)) (ks.take i ++ c :: ks.drop (i + 2)) = rgtN (i + 1) es ks := by
    unfold rgtN
    rw [List.getElem?_append_right (by omega), hle, Nat.sub_self, List.getElem?_drop, Nat.add_zero]
    have e1 : (es.take i ++ es.drop (i + 1)).drop (i + 1) = es.drop (i + 1 + 1) := by
      rw [List.drop_append, hle, List.drop_of_length_le (by omega), List.nil_append, List.drop_drop]
      congr 1; omega
    have e2 : (ks.take i ++ c :: ks.drop (i + 2)).drop (i + 1) = ks.drop (i + 1 + 1) := by
      rw [List.drop_append, hlk, List.drop_of_length_le (by omega), List.nil_append, show i + 1 - i = 1 by omega]
      rfl
    rw [e1, e2]
  have h3 : lftN i (es.take i ++ es.drop (i + 1)) (ks.take i ++ c :: ks.drop (i + 2)) = lftN i es ks := by
    cases i with
    | zero => rfl
    | succ i =>
      rw [lft_succ, lft_succ, List.take_append_of_le_length (by omega), List.take_take, Nat.min_eq_left (by omega), List.take_append_of_le_length (by omega), List.take_take, Nat.min_self, List.getElem?_append_left (by omega), List.getElem?_take, if_pos (by omega)]
  rw [h1, h2, h3]
/-- entries that rise: in the midst of others. -/
theorem sort_mid {A k C : List En} (h : SortE (A ++ k ++ C)) : SortE k ∧ (∀ a ∈ A, ∀ x ∈ k, cmpE a x < 0) ∧ (∀ x ∈ k, ∀ c ∈ C, cmpE x c < 0) ∧ (∀ a ∈ A, ∀ c ∈ C, cmpE a c < 0) ∧ SortE A ∧ SortE C := by
  obtain ⟨h1, h2, h3⟩ := List.pairwise_append.1 h
  obtain ⟨h4, h5, h6⟩ := List.pairwise_append.1 h1
  exact ⟨h5, h6, fun x hx c hc => h3 x (List.mem_append_right _ hx) c hc, fun a ha c hc => h3 a (List.mem_append_left _ ha) c hc, h4, h2⟩
theorem mid_sort {A k C : List En} (hA : SortE A) (hk : SortE k) (hC : SortE C) (h1 : ∀ a ∈ A, ∀ x ∈ k, cmpE a x < 0) (h2 : ∀ x ∈ k, ∀ c ∈ C, cmpE x c < 0) (h3 : ∀ a ∈ A, ∀ c ∈ C, cmpE a c < 0) : SortE (A ++ k ++ C) :=
  List.pairwise_append.2 ⟨List.pairwise_append.2 ⟨hA, hk, h1⟩, hC, fun x hx c hc => by
    rcases List.mem_append.1 hx with hx | hx
    · exact h3 x hx c hc
    · exact h2 x hx c hc⟩
theorem mem_mid {A k C : List En} {e : En} (hA : ∀ a ∈ A, cmpE a e < 0) (hC : ∀ c ∈ C, cmpE e c < 0) : e ∈ A ++ k ++ C ↔ e ∈ k := by
  rw [List.mem_append, List.mem_append]
  constructor
  · rintro ((h | h) | h)
    · exact absurd (hA e h) ltE_irrefl
    · exact h
    · exact absurd (hC e h) ltE_irrefl
  · exact fun h => .inl (.inr h)
theorem ins_mid {A k C : List En} {e : En} (h : SortE (A ++ k ++ C)) (hA : ∀ a ∈ A, cmpE a e < 0) (hC : ∀ c ∈ C, cmpE e c < 0) : insE e (A ++ k ++ C) = A ++ insE e k ++ C := by
  obtain ⟨h1, h2, h3, h4, h5, h6⟩ := sort_mid h
  refine sort_ext (sort_ins h) (mid_sort h5 (sort_ins h1) h6 (fun a ha x hx => ?_) (fun x hx c hc => ?_) h4) fun x => ?_
  · rcases mem_insE.1 hx with rfl | hx
    · exact hA a ha
    · exact h2 a ha x hx
  · rcases mem_insE.1 hx with rfl | hx
    · exact hC c hc
    · exact h3 x hx c hc
  · simp only [mem_insE, List.mem_append]
    constructor
    · rintro (h | (h | h) | h)
      · exact .inl (.inr (.inl h))
      · exact .inl (.inl h)
      · exact .inl (.inr (.inr h))
      · exact .inr h
    · rintro ((h | h | h) | h)
      · exact .inr (.inl (.inl h))
      · exact .inl h
      · exact .inr (.inl (.inr h))
      · exact .inr (.inr h)
theorem del_mid {A k C : List En} {e : En} (h : SortE (A ++ k ++ C)) (hA : ∀ a ∈ A, cmpE a e < 0) (hC : ∀ c ∈ C, cmpE e c < 0) : delE e (A ++ k ++ C) = A ++ delE e k ++ C := by
  obtain ⟨h1, h2, h3, h4, h5, h6⟩ := sort_mid h
  refine sort_ext (sort_del h) (mid_sort h5 (sort_del h1) h6 (fun a ha x hx => h2 a ha x (mem_delE.1 hx).1) (fun x hx c hc => h3 x (mem_delE.1 hx).1 c hc) h4) fun x => ?_
  simp only [mem_delE, List.mem_append]
  constructor
  · rintro ⟨(h | h) | h, hn⟩
    · exact .inl (.inl h)
    · exact .inl (.inr ⟨h, hn⟩)
    · exact .inr h
  · rintro ((h | ⟨h, hn⟩) | h)
    · exact ⟨.inl (.inl h), fun e1 => by rw [e1] at h; exact ltE_irrefl (hA e h)⟩
    · exact ⟨.inl (.inr h), hn⟩
    · exact ⟨.inr h, fun e1 => by rw [e1] at h; exact ltE_irrefl (hC e h)⟩
theorem del_at {A C : List En} {e : En} (h : SortE (A ++ e :: C)) : delE e (A ++ e :: C) = A ++ C := by
  obtain ⟨h1, h2, h3⟩ := List.pairwise_append.1 h
  have h4 := List.pairwise_cons.1 h2
  have hs : SortE (A ++ C) := List.pairwise_append.2 ⟨h1, h4.2, fun a ha c hc => h3 a ha c (List.mem_cons_of_mem _ hc)⟩
  refine sort_ext (sort_del h) hs fun x => ?_
  simp only [mem_delE, List.mem_append, List.mem_cons]
  constructor
  · rintro ⟨h5 | h5 | h5, h6⟩
    · exact .inl h5
    · exact absurd h5 h6
    · exact .inr h5
  · rintro (h5 | h5)
    · exact ⟨.inl h5, ltE_ne (h3 x h5 e (by simp))⟩
    · exact ⟨.inr (.inr h5), fun e1 => by rw [e1] at h5; exact ltE_irrefl (h4.1 e h5)⟩
/-- the first one above, the last one below: in the midst of others. -/
theorem after_mid {A k C : List En} {e : En} (hA : ∀ a ∈ A, ¬ cmpE e a < 0) (hC : ∀ c ∈ C, cmpE e c < 0) : afterE e (A ++ k ++ C) = (afterE e k).or C.head? := by
  have h1 : A.find? (fun x => decide (cmpE e x < 0)) = none := List.find?_eq_none.2 fun x hx => by simpa using hA x hx
  have h2 : C.find? (fun x => decide (cmpE e x < 0)) = C.head? := by
    cases C with
    | nil => rfl
    | cons c C => rw [List.find?_cons_of_pos (by simpa using hC c (by simp))]; rfl
  unfold afterE
  rw [List.find?_append, List.find?_append, h1, h2, Option.none_or]
theorem before_app {e : En} : ∀ (a b : List En), beforeE e (a ++ b) = (beforeE e b).or (beforeE e a)
  | [], b => by simp [beforeE]
  | x :: a, b => by
    have ih := before_app (e := e) a b
    rw [List.cons_append]
    conv => lhs; unfold beforeE
    conv => rhs; rhs; unfold beforeE
    rw [ih]
    cases beforeE e b with
    | some y => rfl
    | none => simp only [Option.none_or]
theorem before_all {e : En} : ∀ (a : List En), (∀ x ∈ a, cmpE x e < 0) → beforeE e a = a.getLast?
  | [], _ => rfl
  | x :: a, h => by
    unfold beforeE
    rw [before_all a fun y hy => h y (List.mem_cons_of_mem _ hy)]
    cases a with
    | nil => simp [h x (by simp)]
    | cons y a => rw [List.getLast?_cons_cons]; cases hl : (y :: a).getLast? with
      | none => simp at hl
      | some z => rfl
theorem before_mid {A k C : List En} {e : En} (hA : ∀ a ∈ A, cmpE a e < 0) (hC : ∀ c ∈ C, ¬ cmpE c e < 0) : beforeE e (A ++ k ++ C) = (beforeE e k).or A.getLast? := by
  rw [before_app, before_low hC, Option.none_or, before_app, before_all A hA]
end Go.Proofs.YtfpkkobclkdniaaGreatDoor

namespace Go.Proofs.YtfpkkobclkdniaaGreatDoor
open Go.RowKit

def encP (b : Nat) : List Value := [.pointer (some ⟨b, 0, none⟩)]
def encPs (l : List Nat) : List Value := l.flatMap encP
theorem encP_len (b : Nat) : (encP b).length = 1 := rfl
theorem encP_one : ∀ e, ∀ u ∈ encP e, u.oneCell' = true := by
  intro e u hu
  rw [List.mem_singleton.1 hu]; rfl
theorem encEns_append (a b : List En) : encEns (a ++ b) = encEns a ++ encEns b := by simp [encEns]
theorem encPs_append (a b : List Nat) : encPs (a ++ b) = encPs a ++ encPs b := by simp [encPs]
theorem encEns_take (l : List En) (i : Nat) : (encEns l).take (i * 2) = encEns (l.take i) := flat_takeE encEn_len l i
theorem encPs_take (l : List Nat) (i : Nat) : (encPs l).take i = encPs (l.take i) := by have := flat_takeE encP_len l i; rwa [Nat.mul_one] at this
theorem encEns_drop (l : List En) (i : Nat) : (encEns l).drop (i * 2) = encEns (l.drop i) := flat_drop encEn_len l i
theorem encPs_drop (l : List Nat) (i : Nat) : (encPs l).drop i = encPs (l.drop i) := by have := flat_drop encP_len l i; rwa [Nat.mul_one] at this
theorem encEns_len (l : List En) : (encEns l).length = l.length * 2 := flat_length encEn_len l
theorem encPs_len (l : List Nat) : (encPs l).length = l.length := by have := flat_length encP_len l; rwa [Nat.mul_one] at this
theorem encEns_one (l : List En) : ∀ u ∈ encEns l, u.oneCell' = true := flat_one encEn_one l
theorem encPs_one (l : List Nat) : ∀ u ∈ encPs l, u.oneCell' = true := flat_one encP_one l
theorem own_toE {w : World} {base t n : Nat} {v : Value} {xs : List Value} (h : xs.length = n * 2 ∧ ((v = .slice none 0 0 ∧ n = 0) ∨ ∃ g cap cur, v = .slice (some ⟨g, 0, none⟩) n cap ∧ base ≤ g ∧ w.heap[g]? = some (.cells cur t (0, 0)) ∧ n ≤ cap ∧ cap ≤ maxLen ∧ cur.size = cap * 2 ∧ cur.toList.take (n * 2) = xs)) : w.ownsRow base t 2 v n xs := h
theorem own_ofE {w : World} {base t n : Nat} {v : Value} {xs : List Value} (h : w.ownsRow base t 2 v n xs) : xs.length = n * 2 ∧ ((v = .slice none 0 0 ∧ n = 0) ∨ ∃ g cap cur, v = .slice (some ⟨g, 0, none⟩) n cap ∧ base ≤ g ∧ w.heap[g]? = some (.cells cur t (0, 0)) ∧ n ≤ cap ∧ cap ≤ maxLen ∧ cur.size = cap * 2 ∧ cur.toList.take (n * 2) = xs) := h
theorem own_toP {w : World} {base t n : Nat} {v : Value} {xs : List Value} (h : xs.length = n ∧ ((v = .slice none 0 0 ∧ n = 0) ∨ ∃ g cap cur, v = .slice (some ⟨g, 0, none⟩) n cap ∧ base ≤ g ∧ w.heap[g]? = some (.cells cur t (0, 0)) ∧ n ≤ cap ∧ cap ≤ maxLen ∧ cur.size = cap ∧ cur.toList.take n = xs)) : w.ownsRow base t 1 v n xs := by
  unfold World.ownsRow
  simp only [Nat.mul_one]
  exact h
theorem own_ofP {w : World} {base t n : Nat} {v : Value} {xs : List Value} (h : w.ownsRow base t 1 v n xs) : xs.length = n ∧ ((v = .slice none 0 0 ∧ n = 0) ∨ ∃ g cap cur, v = .slice (some ⟨g, 0, none⟩) n cap ∧ base ≤ g ∧ w.heap[g]? = some (.cells cur t (0, 0)) ∧ n ≤ cap ∧ cap ≤ maxLen ∧ cur.size = cap ∧ cur.toList.take n = xs) := by
  unfold World.ownsRow at h
  simp only [Nat.mul_one] at h
  exact h

theorem info_parts {t : TypeId} {z : Value} {s b : Nat} (h : (Tryz.prog.info? t).map (fun i => (i.zero, i.size, i.bytes)) = some (some z, s, b)) : ∃ i, Tryz.prog.info? t = some i ∧ i.zero = some z ∧ i.size = s ∧ i.bytes = b := by
  obtain ⟨i, hi, hzz⟩ := Option.map_eq_some_iff.1 h
  simp only [Prod.mk.injEq] at hzz
  exact ⟨i, hi, hzz.1, hzz.2.1, hzz.2.2⟩
theorem infoE : (Tryz.prog.info? 58).map (fun i => (i.zero, i.size, i.bytes)) = some (some (.agg #[.string ⟨#[]⟩, .int .i64 0]), 2, 24) := by kernel_rfl
theorem step_append_eqE {P : Program} {ops : Array Oper} {o : Oper} {a : Act} {w : World} {K : Act → World → Prop} {Q : Exit → Act → World → Prop} {E : Prop}
    (hg : o.guard = none) (s x : Operand) (t tn : TypeId) (hop : o.op = Op.call { callee := Callee.builtin Builtin.append, args := #[s, x], argTypes := #[t, tn] })
    (vs vx : Value) (hs : a.eval s = vs) (hx : a.eval x = vx) (v' : Value) (w' : World) (hr : (Builtin.append_ #[t, tn] o.type #[vs, vx]).run P w = .ok v' w') (hK : K (a.put o.dst v') w') :
    if Region.wanted o (yielded ops a.tmps) = true then Oper.wp P o a w K Q else E := by
  have hw : Region.wanted o (yielded ops a.tmps) = true := by simp [Region.wanted, hg]
  rw [if_pos hw]
  unfold Oper.wp
  simp [execOp, hop, resolve, invoke, builtin, hs, hx, hr, Result.andThen]
  exact hK
theorem step_copy_eqE {P : Program} {ops : Array Oper} {o : Oper} {a : Act} {w : World} {K : Act → World → Prop} {Q : Exit → Act → World → Prop} {E : Prop}
    (hg : o.guard = none) (s x : Operand) (t tn : TypeId) (hop : o.op = Op.call { callee := Callee.builtin Builtin.copy, args := #[s, x], argTypes := #[t, tn] })
    (vs vx : Value) (hs : a.eval s = vs) (hx : a.eval x = vx) (v' : Value) (w' : World) (hr : (Builtin.copy_ #[t, tn] o.type #[vs, vx]).run P w = .ok v' w') (hK : K (a.put o.dst v') w') :
    if Region.wanted o (yielded ops a.tmps) = true then Oper.wp P o a w K Q else E := by
  have hw : Region.wanted o (yielded ops a.tmps) = true := by simp [Region.wanted, hg]
  rw [if_pos hw]
  unfold Oper.wp
  simp [execOp, hop, resolve, invoke, builtin, hs, hx, hr, Result.andThen]
  exact hK
theorem setRow_grownE {w : World} {B : Nat} (cs : Array Value) : w.grownBy (w.setRow B cs) (some B) :=
  ⟨rfl, rfl, rfl, by simp, fun k _ hk => setRow_other w B k cs (fun e => hk (by rw [e]))⟩
theorem below_rowE {B g : Nat} {w0 w : World} (hb : Below B w0 w) (hBg : B ≤ g) (cs : Array Value) : Below B w0 (w.setRow g cs) :=
  ⟨hb.os, hb.tape, hb.output, by simp only [setRow_size]; exact hb.size, fun k hk => by rw [setRow_other w g k cs (by omega)]; exact hb.block k hk⟩
end Go.Proofs.YtfpkkobclkdniaaGreatDoor

namespace Go.Proofs.YtfpkkobclkdniaaGreatDoor
open Go.RowKit

/-- how often a block is a slice's own; a node's, or its slices'; all that of a node and all below it. -/
def vc (a : Nat) (v : Value) : Nat := if v.ownBlock = some a then 1 else 0
def sc (a : Nat) (t : Nd) : Nat := (if a = t.b then 1 else 0) + vc a t.s + vc a t.k
def tc : Nat → Nat → Nd → Nat
  | 0, a, t => sc a t
  | n + 1, a, t => sc a t + (t.kids.map (tc n a)).sum
/-- what was there stays but for the blocks that f counts. -/
structure Chg (f : Nat → Nat) (w w' : World) : Prop where
  os : w'.os = w.os
  tape : w'.tape = w.tape
  output : w'.output = w.output
  size : w.heap.size ≤ w'.heap.size
  block : ∀ a, a < w.heap.size → f a = 0 → w'.heap[a]? = w.heap[a]?
theorem Chg.refl (f : Nat → Nat) (w : World) : Chg f w w := ⟨rfl, rfl, rfl, Nat.le_refl _, fun _ _ _ => rfl⟩
theorem Chg.trans {f g : Nat → Nat} {a b c : World} (h : Chg f a b) (k : Chg g b c) (hfg : ∀ x, x < a.heap.size → f x = 0 → g x = 0) : Chg f a c :=
  ⟨k.os.trans h.os, k.tape.trans h.tape, k.output.trans h.output, Nat.le_trans h.size k.size, fun x hx hf => (k.block x (Nat.lt_of_lt_of_le hx h.size) (hfg x hx hf)).trans (h.block x hx hf)⟩
theorem Chg.mono {f g : Nat → Nat} {w w' : World} (h : Chg f w w') (hfg : ∀ x, x < w.heap.size → g x = 0 → f x = 0) : Chg g w w' :=
  ⟨h.os, h.tape, h.output, h.size, fun x hx hg => h.block x hx (hfg x hx hg)⟩
theorem Chg.below {f : Nat → Nat} {w w' : World} (h : Below w.heap.size w w') : Chg f w w' := ⟨h.os, h.tape, h.output, h.size, fun x hx _ => h.block x hx⟩
theorem Chg.to_below {f : Nat → Nat} {w w' : World} {B : Nat} (h : Chg f w w') (hB : B ≤ w.heap.size) (hf : ∀ a, a < B → f a = 0) : Below B w w' :=
  ⟨h.os, h.tape, h.output, h.size, fun x hx => h.block x (by omega) (hf x hx)⟩

theorem vc_le (a : Nat) (v : Value) : vc a v ≤ 1 := by unfold vc; split <;> omega
theorem vc_ne {a : Nat} {v : Value} (h : vc a v ≠ 0) : v.ownBlock = some a := by
  unfold vc at h
  split at h
  · assumption
  · exact absurd rfl h
theorem vc_of {a : Nat} {v : Value} (h : v.ownBlock = some a) : vc a v = 1 := by unfold vc; rw [if_pos h]
theorem vc_same {a : Nat} {u v : Value} (h : u.ownBlock = v.ownBlock) : vc a u = vc a v := by unfold vc; rw [h]
theorem vc_nil (a : Nat) (n c : Nat) : vc a (.slice none n c) = 0 := by simp [vc, Value.ownBlock]
section
variable {W W' : World} {t : Nd} {n : Nat}
theorem own_keep {base e size m : Nat} {v : Value} {xs : List Value} (h : W.ownsRow base e size v m xs) (hk : ∀ a, vc a v ≠ 0 → W'.heap[a]? = W.heap[a]?) : W'.ownsRow base e size v m xs := by
  refine ⟨h.1, ?_⟩
  rcases h.2 with hn | ⟨g, cap, cur, rfl, hb, hg, rest⟩
  · exact .inl hn
  · refine .inr ⟨g, cap, cur, rfl, hb, ?_, rest⟩
    rw [hk g (by rw [vc_of rfl]; omega)]
    exact hg
theorem own_lt {base e size m : Nat} {v : Value} {xs : List Value} (h : W.ownsRow base e size v m xs) {a : Nat} (ha : vc a v ≠ 0) : a < W.heap.size := (h.lt a (vc_ne ha)).2
theorem le_sum {α : Type} (f : α → Nat) : ∀ {l : List α} {x : α}, x ∈ l → f x ≤ (l.map f).sum
  | [], _, h => by cases h
  | y :: l, x, h => by
    rw [List.map_cons, List.sum_cons]
    rcases List.mem_cons.1 h with rfl | h
    · omega
    · have := le_sum f h; omega
theorem sum_zero {α : Type} (f : α → Nat) : ∀ {l : List α}, (∀ x ∈ l, f x = 0) → (l.map f).sum = 0
  | [], _ => rfl
  | y :: l, h => by
    rw [List.map_cons, List.sum_cons, h y (by simp), sum_zero f fun x hx => h x (List.mem_cons_of_mem _ hx)]
theorem sum_ne {α : Type} (f : α → Nat) {l : List α} (h : (l.map f).sum ≠ 0) : ∃ x ∈ l, f x ≠ 0 := by
  refine Classical.byContradiction fun hc => h (sum_zero f fun x hx => ?_)
  refine Classical.byContradiction fun hx0 => hc ⟨x, hx, hx0⟩
theorem sum_app {α : Type} (f : α → Nat) (a b : List α) : ((a ++ b).map f).sum = (a.map f).sum + (b.map f).sum := by rw [List.map_append, List.sum_append]
theorem sum_cons {α : Type} (f : α → Nat) (x : α) (b : List α) : ((x :: b).map f).sum = f x + (b.map f).sum := by rw [List.map_cons, List.sum_cons]
theorem tc_sc (n a : Nat) (t : Nd) : sc a t ≤ tc n a t := by
  cases n with
  | zero => exact Nat.le_refl _
  | succ n => unfold tc; omega
end

theorem split_at {α : Type} {l : List α} {i : Nat} {x : α} (h : l[i]? = some x) : l = l.take i ++ x :: l.drop (i + 1) := by
  have hj := (List.getElem?_eq_some_iff.1 h).1
  have h6 := List.drop_eq_getElem_cons hj
  have h7 : l[i] = x := by rw [List.getElem?_eq_getElem hj] at h; exact Option.some.inj h
  rw [h7] at h6
  rw [← h6, List.take_append_drop]
theorem set_at {α : Type} {l : List α} {i : Nat} {x : α} (y : α) (h : l[i]? = some x) : l.set i y = l.take i ++ y :: l.drop (i + 1) := by
  have hj := (List.getElem?_eq_some_iff.1 h).1
  rw [List.set_eq_take_append_cons_drop, if_pos hj]

theorem heap_setCell_at {w : World} {b i : Nat} {u : Value} {cur : Array Value} {ty : TypeId} (h : w.heap[b]? = some (.cells cur ty (0, 0))) : (w.setCell ⟨b, i, none⟩ u).heap[b]? = some (.cells (cur.setIfInBounds i u) ty (0, 0)) := by
  rw [setCell_eq_setRow w b i cur ty (0, 0) u h]
  exact setRow_heap w b cur _ ty (0, 0) h
theorem chg_setCell {f : Nat → Nat} {w : World} {b i : Nat} {u : Value} (hf : f b ≠ 0) : Chg f w (w.setCell ⟨b, i, none⟩ u) :=
  ⟨rfl, rfl, rfl, by simp [World.setCell], fun a _ ha => Below.heap_setCell _ _ _ _ (fun e => hf (by have e : a = b := e; rw [← e]; exact ha))⟩
theorem chg_grown {f : Nat → Nat} {w w' : World} {v : Value} (hg : w.grownBy w' v.ownBlock) (hf : ∀ a, vc a v ≠ 0 → f a ≠ 0) : Chg f w w' :=
  ⟨hg.os, hg.tape, hg.output, hg.size, fun a ha h0 => hg.block a ha (fun e => hf a (by rw [vc_of e.symm]; omega) h0)⟩

section
variable {w w1 w2 : World} {t : Nd} {v : Value}
end
theorem sc_putS {a : Nat} {t : Nd} {v : Value} {es' : List En} (h : v.ownBlock = t.s.ownBlock) : sc a { t with s := v, es := es' } = sc a t := by
  unfold sc; simp only; rw [vc_same h]
theorem sc_putK {a : Nat} {t : Nd} {v : Value} {ks' : List Nd} (h : v.ownBlock = t.k.ownBlock) : sc a { t with k := v, kids := ks' } = sc a t := by
  unfold sc; simp only; rw [vc_same h]
end Go.Proofs.YtfpkkobclkdniaaGreatDoor

namespace Go.Proofs.YtfpkkobclkdniaaGreatDoor
open Go.RowKit

def ss (a : Nat) (ts : List Nd) : Nat := (ts.map (sc a)).sum
theorem ss_app (a : Nat) (x y : List Nd) : ss a (x ++ y) = ss a x + ss a y := sum_app _ _ _
theorem ss_cons (a : Nat) (t : Nd) (y : List Nd) : ss a (t :: y) = sc a t + ss a y := sum_cons _ _ _
theorem ss_nil (a : Nat) : ss a [] = 0 := rfl
/-- all below some nodes. -/
def gc : Nat → Nat → List Nd → Nat
  | 0, _, _ => 0
  | n + 1, a, l => ((l.flatMap Nd.kids).map (tc n a)).sum
theorem sum_flat (f : Nd → Nat) : ∀ l : List Nd, (l.map fun x => (x.kids.map f).sum).sum = ((l.flatMap Nd.kids).map f).sum
  | [] => rfl
  | x :: l => by rw [List.map_cons, List.sum_cons, List.flatMap_cons, sum_app, sum_flat f l]
theorem sum_add {α : Type} (f g : α → Nat) : ∀ l : List α, (l.map fun x => f x + g x).sum = (l.map f).sum + (l.map g).sum
  | [] => rfl
  | x :: l => by rw [List.map_cons, List.map_cons, List.map_cons, List.sum_cons, List.sum_cons, List.sum_cons, sum_add f g l]; omega
theorem sum_tc (n a : Nat) (l : List Nd) : (l.map (tc n a)).sum = ss a l + gc n a l := by
  cases n with
  | zero => rfl
  | succ n =>
    show (l.map fun x => sc a x + (x.kids.map (tc n a)).sum).sum = _
    rw [sum_add, sum_flat]
    rfl
section
variable {w : World} {t : Nd} {i : Nat}
theorem own_cells {k m : Nat} {ty : TypeId} {v : Value} {xs : List Value} (h : w.ownsRow 0 ty k v m xs) (hm : 0 < m) : ∃ B c, v = .slice (some ⟨B, 0, none⟩) m c ∧ m ≤ c ∧ c ≤ 9223372036854775807 ∧ (∀ j u, xs[j]? = some u → w.cell? ⟨B, j, none⟩ = some u) ∧ ∀ j, w.frozen? ⟨B, j, none⟩ = false := by
  rcases h.2 with ⟨rfl, rfl⟩ | ⟨g, cap, cur, rfl, hb, hg, h1, h2, h3, h4⟩
  · omega
  · refine ⟨g, cap, rfl, h1, by unfold maxLen at h2; omega, fun j u hj => ?_, fun j => by simp [World.frozen?, hg]⟩
    have := h.cells (g := g) rfl j u hj
    rwa [Addr.add_lit, Nat.zero_add] at this
end
end Go.Proofs.YtfpkkobclkdniaaGreatDoor

namespace Go.Proofs.YtfpkkobclkdniaaGreatDoor
open Go.RowKit

theorem Or_any (B : Nat) (x y : Int) (t : TypeId) (w : World) (h : w.heap[B]? = some (.cells #[.int .i64 x, .int .i64 y] t (0, 0))) :
    Calls Tryz.prog 67 #[.slice (some ⟨B, 0, none⟩) 2 2] w fun e w' => e = .returned (.int .i64 (if x = 0 then y else x)) ∧ w' = w := by
  have c0 : w.cell? ⟨B, 0, none⟩ = some (.int .i64 x) := by simp [World.cell?, h]
  have c1 : w.cell? ⟨B, 1, none⟩ = some (.int .i64 y) := by simp [World.cell?, h]
  clear h
  by_cases hx : x = 0
  · subst hx
    rw [if_pos rfl]
    by_cases hy : y = 0
    · subst hy
      go_enter Tryz.func67, Tryz.ntmps67
      go_wp2
      refine wp_loop_rounds 3 ?_
      rw [rounds_succ]
      go_wp2
      rw [rounds_succ]
      go_wp2
      rw [rounds_succ]
      go_wp2
      go_ret
      exact ⟨rfl, rfl⟩
    · go_enter Tryz.func67, Tryz.ntmps67
      go_wp2
      refine wp_loop_rounds 2 ?_
      rw [rounds_succ]
      go_wp2
      rw [rounds_succ]
      go_wp2
      go_ret
      exact ⟨rfl, rfl⟩
  · rw [if_neg hx]
    go_enter Tryz.func67, Tryz.ntmps67
    go_wp2
    refine wp_loop_rounds 1 ?_
    rw [rounds_succ]
    go_wp2
    go_ret
    exact ⟨rfl, rfl⟩

theorem mixedE : Tryz.prog.follows .mixedOrders = true := by kernel_rfl
end Go.Proofs.YtfpkkobclkdniaaGreatDoor

namespace Go.Proofs.YtfpkkobclkdniaaGreatDoor
open Go.RowKit Go.Sort

theorem slice_of_rowE {base : Nat} {W : World} {t k n : Nat} {s : Value} {xs : List Value} (h : W.ownsRow base t k s n xs) : ∃ a c, s = .slice a n c := by
  rcases h.2 with ⟨rfl, rfl⟩ | ⟨g, cap, cur, rfl, _⟩
  · exact ⟨_, _, rfl⟩
  · exact ⟨_, _, rfl⟩
theorem own_cells0 {base k m : Nat} {w : World} {ty : TypeId} {v : Value} {xs : List Value} (h : w.ownsRow base ty k v m xs) (hm : 0 < m) : ∃ B c, v = .slice (some ⟨B, 0, none⟩) m c ∧ m ≤ c ∧ c ≤ 9223372036854775807 ∧ (∀ j u, xs[j]? = some u → w.cell? ⟨B, j, none⟩ = some u) ∧ ∀ j, w.frozen? ⟨B, j, none⟩ = false := by
  rcases h.2 with ⟨rfl, rfl⟩ | ⟨g, cap, cur, rfl, hb, hg, h1, h2, h3, h4⟩
  · omega
  · refine ⟨g, cap, rfl, h1, by unfold maxLen at h2; omega, fun j u hj => ?_, fun j => by simp [World.frozen?, hg]⟩
    have := h.cells (g := g) rfl j u hj
    rwa [Addr.add_lit, Nat.zero_add] at this
theorem vc0 (B n c : Nat) : vc B (.slice (some ⟨B, 0, none⟩) n c) ≠ 0 := by rw [vc_of rfl]; omega
theorem Below.drop_drewE {B : Nat} {w W : World} (h : Below B w.drew W) : Below B w W := ⟨h.os, h.tape, h.output, h.size, h.block⟩
/-- how many stand ahead of one. -/
def ahE (e : En) : List En → Nat
  | [] => 0
  | x :: l => if cmpE x e < 0 then ahE e l + 1 else 0
theorem ah_le (e : En) : ∀ l, ahE e l ≤ l.length
  | [] => Nat.le_refl _
  | x :: l => by unfold ahE; split <;> simp [ah_le e l]
theorem ah_lt (e : En) : ∀ (l : List En) (j : Nat) (x : En), j < ahE e l → l[j]? = some x → cmpE x e < 0
  | [], _, _, h, _ => by simp [ahE] at h
  | y :: l, j, x, h, hx => by
    unfold ahE at h
    split at h
    · rename_i hy
      cases j with
      | zero => simp at hx; rw [← hx]; exact hy
      | succ j => exact ah_lt e l j x (by omega) (by simpa using hx)
    · omega
theorem ah_ge {e : En} : ∀ {l : List En}, SortE l → ∀ (j : Nat) (x : En), ahE e l ≤ j → l[j]? = some x → 0 ≤ cmpE x e
  | [], _, _, _, _, hx => by simp at hx
  | y :: l, hs, j, x, h, hx => by
    have h1 := List.pairwise_cons.1 hs
    unfold ahE at h
    split at h
    · cases j with
      | zero => omega
      | succ j => exact ah_ge h1.2 j x (by omega) (by simpa using hx)
    · rename_i hy
      cases j with
      | zero => simp at hx; rw [← hx]; omega
      | succ j =>
        have h2 := h1.1 x (List.mem_of_getElem? (by simpa using hx))
        refine Int.not_lt.1 fun hc => hy (ltE_trans h2 hc)
theorem ah_find {e : En} {l : List En} (hs : SortE l) : l[ahE e l]? = some e ↔ e ∈ l := by
  constructor
  · exact fun h => List.mem_of_getElem? h
  · intro h
    obtain ⟨j, hj⟩ := List.mem_iff_getElem?.1 h
    have h0 : cmpE e e = 0 := good_cmpE.refl e
    rcases Nat.lt_trichotomy j (ahE e l) with h1 | h1 | h1
    · have := ah_lt e l j e h1 hj; omega
    · rw [← h1]; exact hj
    · have hl := (List.getElem?_eq_some_iff.1 hj).1
      obtain ⟨y, hy⟩ : ∃ y, l[ahE e l]? = some y := ⟨_, List.getElem?_eq_getElem (by omega)⟩
      have h2 := ah_ge hs _ y (Nat.le_refl _) hy
      have h3 : cmpE y e < 0 := by
        have h4 := List.pairwise_iff_getElem.1 hs _ _ (by omega) hl h1
        rw [List.getElem?_eq_getElem (by omega)] at hy
        rw [List.getElem?_eq_getElem hl] at hj
        rw [Option.some.inj hy, Option.some.inj hj] at h4
        exact h4
      omega

end Go.Proofs.YtfpkkobclkdniaaGreatDoor

namespace Go.Proofs.YtfpkkobclkdniaaGreatDoor
open Go.RowKit Go.Sort

/-- is an entry one of them? -/
def hasE (e : En) (l : List En) : Bool := l.any fun x => cmpE x e == 0
theorem hasE_iff {e : En} {l : List En} : hasE e l = true ↔ e ∈ l := by
  unfold hasE
  rw [List.any_eq_true]
  constructor
  · rintro ⟨x, hx, he⟩
    have := cmpE_eq (by simpa using he)
    rw [← this]; exact hx
  · exact fun h => ⟨e, h, by simp [good_cmpE.refl]⟩
theorem hasE_not {e : En} {l : List En} : hasE e l = false ↔ e ∉ l := by
  rw [← Bool.not_eq_true, hasE_iff]
/-- an entry that comes in lies in a block of its own. -/
theorem box_any (w : World) (k : ByteArray) (i : Int) : ∃ W0, w.alloc (.cells #[.string k, .int .i64 i] 58) = W0 ∧ Below w.heap.size w W0 ∧ W0.heap.size = w.heap.size + 1 ∧ W0.cell? ⟨w.heap.size, 0, none⟩ = some (.string k) ∧ W0.cell? ⟨w.heap.size, 1, none⟩ = some (.int .i64 i) := by
  obtain ⟨W0, hW0⟩ : ∃ W0, w.alloc (.cells #[.string k, .int .i64 i] 58) = W0 := ⟨_, rfl⟩
  have r0 : W0.heap[w.heap.size]? = some (.cells #[.string k, .int .i64 i] 58) := by rw [← hW0]; exact heap_alloc_new _ _
  refine ⟨W0, hW0, by rw [← hW0]; exact (Below.refl _ _).alloc (Nat.le_refl _) _, by rw [← hW0]; simp, ?_, ?_⟩
  · simp [World.cell?, r0]
  · simp [World.cell?, r0]
theorem int_zero (q : Nat) : ((q : Int) == 0) = decide (q = 0) := by
  rw [Bool.eq_iff_iff]
  simp
end Go.Proofs.YtfpkkobclkdniaaGreatDoor

namespace Go.Proofs.YtfpkkobclkdniaaGreatDoor
open Go.RowKit
attribute [local go_sem ↓] Go.wp_at_zero Go.wp_at_succ

theorem beq_cmpTE (a b : ByteArray) : (a.toList == b.toList) = decide (cmpT a b = 0) := by
  by_cases h : cmpT a b = 0
  · rw [cmpT_eq h]; simp [good_cmpT.refl]
  · have hne : ¬ a.toList = b.toList := fun e => h (by unfold cmpT; rw [e]; exact good_cmpT.refl b)
    rw [decide_eq_false h]; exact beq_false_of_ne hne
theorem cmpT_range (a b : ByteArray) : cmpT a b = -1 ∨ cmpT a b = 0 ∨ cmpT a b = 1 := cmpB_range _ _
theorem Texts_any (a b : ByteArray) (w : World) : Calls Tryz.prog 71 #[.string a, .string b] w fun e w' => e = .returned (.int .i64 (cmpT a b)) ∧ w' = w := by
  have hl : Op.bytesLess a.toList b.toList = decide (cmpT a b < 0) := bytesLess_eq _ _
  have hg := beq_cmpTE a b
  have hr := cmpT_range a b
  generalize cmpT a b = r at *
  rcases hr with rfl | rfl | rfl
  · simp only [show decide ((-1 : Int) < 0) = true from rfl, show decide ((-1 : Int) = 0) = false from rfl] at hl hg
    go_enter Tryz.func71, Tryz.ntmps71
    go_wp2
    go_ret
    exact ⟨rfl, rfl⟩
  · simp only [show decide ((0 : Int) < 0) = false from rfl] at hl hg
    go_enter Tryz.func71, Tryz.ntmps71
    go_wp2
    go_ret
    exact ⟨rfl, rfl⟩
  · simp only [show decide ((1 : Int) < 0) = false from rfl, show decide ((1 : Int) = 0) = false from rfl] at hl hg
    go_enter Tryz.func71, Tryz.ntmps71
    go_wp2
    go_ret
    exact ⟨rfl, rfl⟩

theorem ltE_form (ak : ByteArray) (ai : Int) (bk : ByteArray) (bi : Int) : decide (cmpE (ak, ai) (bk, bi) < 0) = (decide (cmpT ak bk < 0) || (decide (cmpT ak bk = 0) && decide (ai < bi))) := by
  have hr := cmpT_range ak bk
  unfold cmpE cmpI
  simp only
  by_cases h0 : cmpT ak bk = 0
  · rw [if_pos h0, h0]
    by_cases h1 : ai < bi
    · simp [h1]
    · rw [if_neg h1]
      simp only [h1]
      split <;> simp
  · rw [if_neg h0]
    simp [h0]
/-- an entry that comes in, and another one. -/
theorem Below_any (a b : En) (w : World) : Calls Tryz.prog 47 #[.agg #[.string a.1, .int .i64 a.2], .agg #[.string b.1, .int .i64 b.2]] w fun e w' => e = .returned (.bool (decide (cmpE a b < 0))) ∧ Below w.heap.size w w' := by
  obtain ⟨ak, ai⟩ := a
  obtain ⟨bk, bi⟩ := b
  obtain ⟨W0, hW0, hwW, hs0, k0, k1⟩ := box_any w ak ai
  obtain ⟨W1, hW1, hwW1, hs1, j0, j1⟩ := box_any W0 bk bi
  have k0' : W1.cell? ⟨w.heap.size, 0, none⟩ = some (.string ak) := (hwW1.cell (by show w.heap.size < _; omega)).trans k0
  have k1' : W1.cell? ⟨w.heap.size, 1, none⟩ = some (.int .i64 ai) := (hwW1.cell (by show w.heap.size < _; omega)).trans k1
  rw [hs0] at j0 j1
  have hb : Below w.heap.size w W1 := hwW.trans (hwW1.mono (by omega))
  have ht := Texts_any ak bk
  have hr := cmpT_range ak bk
  rw [ltE_form]
  generalize cmpT ak bk = r at *
  clear k0 k1 hwW hwW1
  rcases hr with rfl | rfl | rfl
  · go_enter Tryz.func47, Tryz.ntmps47
    go_wp2_with fail
    refine (ht _).mono ?_
    rintro e w1 ⟨rfl, hw1⟩
    subst hw1
    go_wp2
    go_ret
    exact ⟨rfl, hb⟩
  · rw [show (decide ((0 : Int) < 0) || decide ((0 : Int) = 0) && decide (ai < bi)) = decide (ai < bi) by simp]
    go_enter Tryz.func47, Tryz.ntmps47
    go_wp2_with fail
    refine (ht _).mono ?_
    rintro e w1 ⟨rfl, hw1⟩
    subst hw1
    go_wp2
    go_ret
    exact ⟨rfl, hb⟩
  · go_enter Tryz.func47, Tryz.ntmps47
    go_wp2_with fail
    refine (ht _).mono ?_
    rintro e w1 ⟨rfl, hw1⟩
    subst hw1
    go_wp2
    go_ret
    exact ⟨rfl, hb⟩
end Go.Proofs.YtfpkkobclkdniaaGreatDoor

namespace Go.Proofs.YtfpkkobclkdniaaGreatDoor
open Go.RowKit

theorem run_copy_rowsE (w : World) (ty g o dLen dCap : Nat) (a : Addr) (sLen sCap : Nat) (cur : Array Value) (cs : List Value)
    (hg : w.heap[g]? = some (.cells cur 58 (0, 0))) (hn : cs.length = Nat.min sLen dLen * 2)
    (hsrc : ∀ j v, cs[j]? = some v → w.cell? (a.add j) = some v) (hfit : o + cs.length ≤ cur.size) (h1 : ∀ v ∈ cs, v.oneCell' = true) :
    (Builtin.copy_ #[53, 53] ty #[.slice (some ⟨g, o, none⟩) dLen dCap, .slice (some a) sLen sCap]).run Tryz.prog w =
      .ok (goInt (Nat.min sLen dLen)) (w.setRow g (cur.toList.take o ++ cs ++ cur.toList.drop (o + cs.length)).toArray) := by
  obtain ⟨j0, hi0, hz0, hz1, hz2⟩ := info_parts infoE
  have hl := run_firstCells_some (P := Tryz.prog) w 2 (Nat.min sLen dLen) a sLen sCap cs (by omega) hsrc
  have hst := run_storeCells_at Tryz.prog g o 58 cs 0 cur w hg (by simpa using hfit) h1
  simp only [Nat.add_zero] at hst
  simp [Builtin.copy_, run_underlying Tryz.underlying53, Builtin.lenOf, sizeOf, typeInfo, hi0, hz1, hl, hst]

theorem sizeE (w : World) : (Go.sizeOf 58).run Tryz.prog w = .ok 2 w := by
  simp [go_sem, Tryz.sizeOf58]

end Go.Proofs.YtfpkkobclkdniaaGreatDoor
