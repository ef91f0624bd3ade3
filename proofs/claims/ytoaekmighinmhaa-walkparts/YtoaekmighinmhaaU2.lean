/-
  Entries, and what is told of nodes, as cells. No conditions beyond those stated.
  Trees of nodes: what a change of one kid, of two beside one another, of an entry between them is to all entries. No conditions beyond those stated.
  Rows of entries and of pointers to nodes that a caller owns. No conditions beyond those stated.
-/
import Derived.Test.YtoaekmighinmhaaProg
import Derived.Test.YtoaekmighinmhaaU1
import Derived.Deep.RegionLaw
import Derived.Lib.AppendZeros
import Derived.Lib.AppendZerosOnto
import Derived.Lib.SlBuf
import Derived.Lib.Overlaps
import Derived.Deep.AppendLies
import Derived.Laws.OwnMore
namespace Go.Proofs.Ytoaekmighinmhaa

/-- rows of elements of so many cells. -/
theorem flat_length {α : Type} {enc : α → List Value} {k : Nat} (h : ∀ a, (enc a).length = k) : ∀ l : List α, (l.flatMap enc).length = l.length * k
  | [] => by simp
  | a :: l => by
    rw [List.flatMap_cons, List.length_append, flat_length h l, h, List.length_cons, Nat.add_mul, Nat.one_mul, Nat.add_comm]
theorem flat_at {α : Type} {enc : α → List Value} {k : Nat} (h : ∀ a, (enc a).length = k) : ∀ (l : List α) (i j : Nat) (a : α) (u : Value), l[i]? = some a → (enc a)[j]? = some u → (l.flatMap enc)[i * k + j]? = some u
  | [], _, _, _, _, hi, _ => by simp at hi
  | x :: l, 0, j, a, u, hi, hu => by
    simp at hi; subst hi
    have : j < (enc x).length := (List.getElem?_eq_some_iff.1 hu).1
    rw [List.flatMap_cons, List.getElem?_append_left (by omega), Nat.zero_mul, Nat.zero_add]; exact hu
  | x :: l, i + 1, j, a, u, hi, hu => by
    have ih := flat_at h l i j a u (by simpa using hi) hu
    have hk := h x
    have e : (i + 1) * k + j - k = i * k + j := by rw [Nat.add_mul, Nat.one_mul]; omega
    rw [List.flatMap_cons, List.getElem?_append_right (by rw [hk, Nat.add_mul, Nat.one_mul]; omega), hk, e]
    exact ih
theorem flat_take {α : Type} {enc : α → List Value} {k : Nat} (h : ∀ a, (enc a).length = k) : ∀ (l : List α) (i : Nat), (l.flatMap enc).take (i * k) = (l.take i).flatMap enc
  | [], i => by simp
  | x :: l, 0 => by simp
  | x :: l, i + 1 => by
    have ih := flat_take h l i
    rw [List.take_succ_cons, List.flatMap_cons, List.flatMap_cons, show (i + 1) * k = (enc x).length + i * k by rw [h, Nat.add_mul, Nat.one_mul, Nat.add_comm], List.take_length_add_append, ih]
theorem flat_drop {α : Type} {enc : α → List Value} {k : Nat} (h : ∀ a, (enc a).length = k) : ∀ (l : List α) (i : Nat), (l.flatMap enc).drop (i * k) = (l.drop i).flatMap enc
  | [], i => by simp
  | x :: l, 0 => by simp
  | x :: l, i + 1 => by
    have ih := flat_drop h l i
    rw [List.drop_succ_cons, List.flatMap_cons, show (i + 1) * k = (enc x).length + i * k by rw [h, Nat.add_mul, Nat.one_mul, Nat.add_comm], List.drop_length_add_append, ih]
theorem flat_one {α : Type} {enc : α → List Value} (h : ∀ a, ∀ u ∈ enc a, u.oneCell' = true) (l : List α) : ∀ u ∈ l.flatMap enc, u.oneCell' = true := by
  intro u hu
  obtain ⟨a, _, ha⟩ := List.mem_flatMap.1 hu
  exact h a u ha

def encEn (e : En) : List Value := [.string e.1, .int .i64 e.2]
def encEns (l : List En) : List Value := l.flatMap encEn
theorem encEn_len (e : En) : (encEn e).length = 2 := rfl
theorem encEn_one : ∀ e, ∀ u ∈ encEn e, u.oneCell' = true := by
  intro e u hu
  simp only [encEn, List.mem_cons, List.not_mem_nil, or_false] at hu
  rcases hu with rfl | rfl <;> rfl
/-- what is told of a node: how deep, how many entries, a leaf. -/
abbrev Nt := Nat × Nat × Bool
def encNt (n : Nt) : List Value := [.int .i64 (n.1 : Int), .int .i64 (n.2.1 : Int), .bool n.2.2]
def encNts (l : List Nt) : List Value := l.flatMap encNt
theorem encNt_len (n : Nt) : (encNt n).length = 3 := rfl
theorem encNt_one : ∀ n, ∀ u ∈ encNt n, u.oneCell' = true := by
  intro e u hu
  simp only [encNt, List.mem_cons, List.not_mem_nil, or_false] at hu
  rcases hu with rfl | rfl | rfl <;> rfl
end Go.Proofs.Ytoaekmighinmhaa

namespace Go.Proofs.Ytoaekmighinmhaa

theorem inter_app : ∀ (A : List En) (KA : List (List En)) (e : En) (B : List En) (KB : List (List En)), KA.length = A.length + 1 → inter (A ++ e :: B) (KA ++ KB) = inter A KA ++ e :: inter B KB
  | [], [k], e, B, KB, _ => by simp [inter]
  | [], [], _, _, _, h => by simp at h
  | [], _ :: _ :: _, _, _, _, h => by simp at h
  | a :: A, [], _, _, _, h => by simp at h
  | a :: A, k :: KA, e, B, KB, h => by
    have ih := inter_app A KA e B KB (by simpa using h)
    simp only [List.cons_append, inter, ih, List.append_assoc]
/-- what stands left of a kid, and right of it. -/
def lftN (i : Nat) (es : List En) (ks : List (List En)) : List En :=
  match i with
  | 0 => []
  | i + 1 => inter (es.take i) (ks.take (i + 1)) ++ (es[i]?).toList
def rgtN (i : Nat) (es : List En) (ks : List (List En)) : List En :=
  match es[i]? with
  | none => []
  | some e => e :: inter (es.drop (i + 1)) (ks.drop (i + 1))
theorem lft_succ {i : Nat} {es : List En} {ks : List (List En)} : lftN (i + 1) es ks = inter (es.take i) (ks.take (i + 1)) ++ (es[i]?).toList := rfl
theorem inter_one (k : List En) : inter [] [k] = k := by simp [inter]
/-- ahead of a place: the entries and kids, the kid there, and what follows. -/
theorem inter_kid {es : List En} {ks : List (List En)} {i : Nat} {k : List En} (h : ks.length = es.length + 1) (hk : ks[i]? = some k) : inter es ks = lftN i es ks ++ k ++ rgtN i es ks := by
  have hi := (List.getElem?_eq_some_iff.1 hk).1
  -- from the kid on
  have key : inter (es.drop i) (ks.drop i) = k ++ rgtN i es ks := by
    have hkd : ks.drop i = k :: ks.drop (i + 1) := by
      have h1 := List.drop_eq_getElem_cons hi
      rw [(List.getElem?_eq_some_iff.1 hk).2] at h1
      exact h1
    rw [hkd]
    unfold rgtN
    cases he : es[i]? with
    | none =>
      have h2 : es.length ≤ i := List.getElem?_eq_none_iff.1 he
      have h3 : ks.drop (i + 1) = [] := List.drop_of_length_le (by omega)
      rw [List.drop_of_length_le h2, h3]
      simp [inter]
    | some e =>
      have h2 := (List.getElem?_eq_some_iff.1 he).1
      have h3 := List.drop_eq_getElem_cons h2
      rw [(List.getElem?_eq_some_iff.1 he).2] at h3
      rw [h3]
      rfl
  cases i with
  | zero => simpa [lftN] using key
  | succ i =>
    have hie : i < es.length := by omega
    have h1 : es = es.take i ++ es[i] :: es.drop (i + 1) := by rw [← List.drop_eq_getElem_cons hie, List.take_append_drop]
    have h2 : ks = ks.take (i + 1) ++ ks.drop (i + 1) := (List.take_append_drop _ _).symm
    have h3 := inter_app (es.take i) (ks.take (i + 1)) es[i] (es.drop (i + 1)) (ks.drop (i + 1)) (by simp; omega)
    rw [← h1, ← h2] at h3
    rw [h3, key]
    rw [lft_succ, List.getElem?_eq_getElem hie]
    simp [List.append_assoc]
theorem lft_set {es : List En} {ks : List (List En)} {i j : Nat} {k : List En} (h : i ≤ j) : lftN i es (ks.set j k) = lftN i es ks := by
  cases i with
  | zero => rfl
  | succ i =>
    rw [lft_succ, lft_succ, List.take_set_of_le (by omega)]
theorem rgt_set {es : List En} {ks : List (List En)} {i j : Nat} {k : List En} (h : j ≤ i) : rgtN i es (ks.set j k) = rgtN i es ks := by
  unfold rgtN
  rw [List.drop_set_of_lt (by omega)]
/-- another kid in a kid's place. -/
theorem inter_set {es : List En} {ks : List (List En)} {i : Nat} {k : List En} (h : ks.length = es.length + 1) (hi : i < ks.length) : inter es (ks.set i k) = lftN i es ks ++ k ++ rgtN i es ks := by
  have := inter_kid (es := es) (ks := ks.set i k) (i := i) (k := k) (by simpa using h) (by simp [hi])
  rw [this, lft_set (Nat.le_refl _), rgt_set (Nat.le_refl _)]
/-- right of a kid: an entry, the next kid, and what is right of that. -/
theorem rgt_step {es : List En} {ks : List (List En)} {i : Nat} {e : En} {k : List En} (h : ks.length = es.length + 1) (he : es[i]? = some e) (hk : ks[i + 1]? = some k) : rgtN i es ks = e :: k ++ rgtN (i + 1) es ks := by
  have hkl := (List.getElem?_eq_some_iff.1 hk).1
  conv => lhs; unfold rgtN
  rw [he]
  simp only [List.cons_append]
  congr 1
  have h1 := inter_kid (es := es.drop (i + 1)) (ks := ks.drop (i + 1)) (i := 0) (k := k) (by simp; omega) (by simpa using hk)
  rw [h1]
  show [] ++ k ++ rgtN 0 (es.drop (i + 1)) (ks.drop (i + 1)) = _
  rw [List.nil_append]
  congr 1
  unfold rgtN
  simp
/-- all up to a kid, all from a kid on, with another one in its place. -/
theorem inter_left {es : List En} {ks : List (List En)} {i : Nat} {a : List En} (h : ks.length = es.length + 1) (hi : i < ks.length) : inter (es.take i) (ks.take i ++ [a]) = lftN i es ks ++ a := by
  have hlk : (ks.take i).length = i := by rw [List.length_take]; omega
  have hle : (es.take i).length = i := by rw [List.length_take]; omega
  have h1 := inter_kid (es := es.take i) (ks := ks.take i ++ [a]) (i := i) (k := a) (by rw [List.length_append, hlk, hle]; rfl) (by rw [List.getElem?_append_right (by omega), hlk]; simp)
  have h2 : rgtN i (es.take i) (ks.take i ++ [a]) = [] := by unfold rgtN; rw [List.getElem?_eq_none (by omega)]
  have h3 : lftN i (es.take i) (ks.take i ++ [a]) = lftN i es ks := by
    cases i with
    | zero => rfl
    | succ i =>
      rw [lft_succ, lft_succ, List.take_take, Nat.min_eq_left (by omega), List.take_append_of_le_length (by omega), List.take_take, Nat.min_self, List.getElem?_take, if_pos (by omega)]
  rw [h1, h2, h3, List.append_nil]
theorem inter_right {es : List En} {ks : List (List En)} {i : Nat} {b : List En} (h : ks.length = es.length + 1) (hi : i < ks.length) : inter (es.drop i) (b :: ks.drop (i + 1)) = b ++ rgtN i es ks := by
  have h1 := inter_kid (es := es.drop i) (ks := b :: ks.drop (i + 1)) (i := 0) (k := b) (by simp; omega) rfl
  rw [h1]
  show [] ++ b ++ rgtN 0 (es.drop i) (b :: ks.drop (i + 1)) = _
  rw [List.nil_append]
  congr 1
  unfold rgtN
  simp
/-- a kid is parted: an entry between its halves. -/
theorem inter_split {es : List En} {ks : List (List En)} {i : Nat} {a b : List En} {m : En} (h : ks.length = es.length + 1) (hi : i < ks.length) :
    inter (es.take i ++ m :: es.drop i) (ks.take i ++ a :: b :: ks.drop (i + 1)) = lftN i es ks ++ (a ++ m :: b) ++ rgtN i es ks := by
  have hlk : (ks.take i).length = i := by rw [List.length_take]; omega
  have hle : (es.take i).length = i := by rw [List.length_take]; omega
  have h1 := inter_app (es.take i) (ks.take i ++ [a]) m (es.drop i) (b :: ks.drop (i + 1)) (by rw [List.length_append, hlk, hle]; rfl)
  rw [List.append_assoc] at h1
  rw [inter_left h hi, inter_right h hi] at h1
  simpa [List.append_assoc] using h1
/-- two kids beside one another, and the entry between them, are other ones. -/
theorem inter_turn {es : List En} {ks : List (List En)} {i : Nat} {a b : List En} {m : En} (h : ks.length = es.length + 1) (hi : i < es.length) :
    inter (es.take i ++ m :: es.drop (i + 1)) (ks.take i ++ a :: b :: ks.drop (i + 2)) = lftN i es ks ++ (a ++ m :: b) ++ rgtN (i + 1) es ks := by
  have hlk : (ks.take i).length = i := by rw [List.length_take]; omega
  have hle : (es.take i).length = i := by rw [List.length_take]; omega
  have h1 := inter_app (es.take i) (ks.take i ++ [a]) m (es.drop (i + 1)) (b :: ks.drop (i + 2)) (by rw [List.length_append, hlk, hle]; rfl)
  rw [List.append_assoc] at h1
  rw [inter_left h (by omega), inter_right (i := i + 1) h (by omega)] at h1
  simpa [List.append_assoc] using h1
/-- two kids beside one another become one. -/
theorem inter_join {es : List En} {ks : List (List En)} {i : Nat} {c : List En} (h : ks.length = es.length + 1) (hi : i < es.length) :
    inter (es.take i ++ es.drop (i + 1)) (ks.take i ++ c :: ks.drop (i + 2)) = lftN i es ks ++ c ++ rgtN (i + 1) es ks := by
  have hlk : (ks.take i).length = i := by rw [List.length_take]; omega
  have hle : (es.take i).length = i := by rw [List.length_take]; omega
  have h1 := inter_kid (es := es.take i ++ es.drop (i + 1)) (ks := ks.take i ++ c :: ks.drop (i + 2)) (i := i) (k := c) (by simp; omega) (by rw [List.getElem?_append_right (by omega), hlk]; simp)
  have h2 : rgtN i (es.take i ++ es.drop (i + 1)) (ks.take i ++ c :: ks.drop (i + 2)) = rgtN (i + 1) es ks := by
    unfold rgtN
    rw [List.getElem?_append_right (by omega), hle, Nat.sub_self, List.getElem?_drop, Nat.add_zero]
    have e1 : (es.take i ++ es.drop (i + 1)).drop (i + 1) = es.drop (i + 1 + 1) := by
      rw [List.drop_append, hle, List.drop_of_length_le (by omega), List.nil_append, List.drop_drop]
      congr 1; omega
    have e2 : (ks.take i ++ c :: ks.drop (i + 2)).drop (i + 1) = ks.drop (i + 1 + 1) := by
      rw [List.drop_append, hlk, List.drop_of_length_le (by omega), List.nil_append, show i + 1 - i = 1 by omega]
      rfl
    rw [e1, e2]
  have h3 : lftN i (es.take i ++ es.drop (i + 1)) (ks.take i ++ c :: ks.drop (i + 2)) = lftN i es ks := by
    cases i with
    | zero => rfl
    | succ i =>
      rw [lft_succ, lft_succ, List.take_append_of_le_length (by omega), List.take_take, Nat.min_eq_left (by omega), List.take_append_of_le_length (by omega), List.take_take, Nat.min_self, List.getElem?_append_left (by omega), List.getElem?_take, if_pos (by omega)]
  rw [h1, h2, h3]
/-- entries that rise: in the midst of others. -/
theorem sort_mid {A k C : List En} (h : SortE (A ++ k ++ C)) : SortE k ∧ (∀ a ∈ A, ∀ x ∈ k, cmpE a x < 0) ∧ (∀ x ∈ k, ∀ c ∈ C, cmpE x c < 0) ∧ (∀ a ∈ A, ∀ c ∈ C, cmpE a c < 0) ∧ SortE A ∧ SortE C := by
  obtain ⟨h1, h2, h3⟩ := List.pairwise_append.1 h
  obtain ⟨h4, h5, h6⟩ := List.pairwise_append.1 h1
  exact ⟨h5, h6, fun x hx c hc => h3 x (List.mem_append_right _ hx) c hc, fun a ha c hc => h3 a (List.mem_append_left _ ha) c hc, h4, h2⟩
theorem mid_sort {A k C : List En} (hA : SortE A) (hk : SortE k) (hC : SortE C) (h1 : ∀ a ∈ A, ∀ x ∈ k, cmpE a x < 0) (h2 : ∀ x ∈ k, ∀ c ∈ C, cmpE x c < 0) (h3 : ∀ a ∈ A, ∀ c ∈ C, cmpE a c < 0) : SortE (A ++ k ++ C) :=
  List.pairwise_append.2 ⟨List.pairwise_append.2 ⟨hA, hk, h1⟩, hC, fun x hx c hc => by
    rcases List.mem_append.1 hx with hx | hx
    · exact h3 x hx c hc
    · exact h2 x hx c hc⟩
theorem mem_mid {A k C : List En} {e : En} (hA : ∀ a ∈ A, cmpE a e < 0) (hC : ∀ c ∈ C, cmpE e c < 0) : e ∈ A ++ k ++ C ↔ e ∈ k := by
  rw [List.mem_append, List.mem_append]
  constructor
  · rintro ((h | h) | h)
    · exact absurd (hA e h) ltE_irrefl
    · exact h
    · exact absurd (hC e h) ltE_irrefl
  · exact fun h => .inl (.inr h)
theorem ins_mid {A k C : List En} {e : En} (h : SortE (A ++ k ++ C)) (hA : ∀ a ∈ A, cmpE a e < 0) (hC : ∀ c ∈ C, cmpE e c < 0) : insE e (A ++ k ++ C) = A ++ insE e k ++ C := by
  obtain ⟨h1, h2, h3, h4, h5, h6⟩ := sort_mid h
  refine sort_ext (sort_ins h) (mid_sort h5 (sort_ins h1) h6 (fun a ha x hx => ?_) (fun x hx c hc => ?_) h4) fun x => ?_
  · rcases mem_insE.1 hx with rfl | hx
    · exact hA a ha
    · exact h2 a ha x hx
  · rcases mem_insE.1 hx with rfl | hx
    · exact hC c hc
    · exact h3 x hx c hc
  · simp only [mem_insE, List.mem_append]
    constructor
    · rintro (h | (h | h) | h)
      · exact .inl (.inr (.inl h))
      · exact .inl (.inl h)
      · exact .inl (.inr (.inr h))
      · exact .inr h
    · rintro ((h | h | h) | h)
      · exact .inr (.inl (.inl h))
      · exact .inl h
      · exact .inr (.inl (.inr h))
      · exact .inr (.inr h)
theorem del_mid {A k C : List En} {e : En} (h : SortE (A ++ k ++ C)) (hA : ∀ a ∈ A, cmpE a e < 0) (hC : ∀ c ∈ C, cmpE e c < 0) : delE e (A ++ k ++ C) = A ++ delE e k ++ C := by
  obtain ⟨h1, h2, h3, h4, h5, h6⟩ := sort_mid h
  refine sort_ext (sort_del h) (mid_sort h5 (sort_del h1) h6 (fun a ha x hx => h2 a ha x (mem_delE.1 hx).1) (fun x hx c hc => h3 x (mem_delE.1 hx).1 c hc) h4) fun x => ?_
  simp only [mem_delE, List.mem_append]
  constructor
  · rintro ⟨(h | h) | h, hn⟩
    · exact .inl (.inl h)
    · exact .inl (.inr ⟨h, hn⟩)
    · exact .inr h
  · rintro ((h | ⟨h, hn⟩) | h)
    · exact ⟨.inl (.inl h), fun e1 => by rw [e1] at h; exact ltE_irrefl (hA e h)⟩
    · exact ⟨.inl (.inr h), hn⟩
    · exact ⟨.inr h, fun e1 => by rw [e1] at h; exact ltE_irrefl (hC e h)⟩
theorem del_at {A C : List En} {e : En} (h : SortE (A ++ e :: C)) : delE e (A ++ e :: C) = A ++ C := by
  obtain ⟨h1, h2, h3⟩ := List.pairwise_append.1 h
  have h4 := List.pairwise_cons.1 h2
  have hs : SortE (A ++ C) := List.pairwise_append.2 ⟨h1, h4.2, fun a ha c hc => h3 a ha c (List.mem_cons_of_mem _ hc)⟩
  refine sort_ext (sort_del h) hs fun x => ?_
  simp only [mem_delE, List.mem_append, List.mem_cons]
  constructor
  · rintro ⟨h5 | h5 | h5, h6⟩
    · exact .inl h5
    · exact absurd h5 h6
    · exact .inr h5
  · rintro (h5 | h5)
    · exact ⟨.inl h5, ltE_ne (h3 x h5 e (by simp))⟩
    · exact ⟨.inr (.inr h5), fun e1 => by rw [e1] at h5; exact ltE_irrefl (h4.1 e h5)⟩
/-- the first one above, the last one below: in the midst of others. -/
theorem after_mid {A k C : List En} {e : En} (hA : ∀ a ∈ A, ¬ cmpE e a < 0) (hC : ∀ c ∈ C, cmpE e c < 0) : afterE e (A ++ k ++ C) = (afterE e k).or C.head? := by
  have h1 : A.find? (fun x => decide (cmpE e x < 0)) = none := List.find?_eq_none.2 fun x hx => by simpa using hA x hx
  have h2 : C.find? (fun x => decide (cmpE e x < 0)) = C.head? := by
    cases C with
    | nil => rfl
    | cons c C => rw [List.find?_cons_of_pos (by simpa using hC c (by simp))]; rfl
  unfold afterE
  rw [List.find?_append, List.find?_append, h1, h2, Option.none_or]
theorem before_app {e : En} : ∀ (a b : List En), beforeE e (a ++ b) = (beforeE e b).or (beforeE e a)
  | [], b => by simp [beforeE]
  | x :: a, b => by
    have ih := before_app (e := e) a b
    rw [List.cons_append]
    conv => lhs; unfold beforeE
    conv => rhs; rhs; unfold beforeE
    rw [ih]
    cases beforeE e b with
    | some y => rfl
    | none => simp only [Option.none_or]
theorem before_all {e : En} : ∀ (a : List En), (∀ x ∈ a, cmpE x e < 0) → beforeE e a = a.getLast?
  | [], _ => rfl
  | x :: a, h => by
    unfold beforeE
    rw [before_all a fun y hy => h y (List.mem_cons_of_mem _ hy)]
    cases a with
    | nil => simp [h x (by simp)]
    | cons y a => rw [List.getLast?_cons_cons]; cases hl : (y :: a).getLast? with
      | none => simp at hl
      | some z => rfl
theorem before_mid {A k C : List En} {e : En} (hA : ∀ a ∈ A, cmpE a e < 0) (hC : ∀ c ∈ C, ¬ cmpE c e < 0) : beforeE e (A ++ k ++ C) = (beforeE e k).or A.getLast? := by
  rw [before_app, before_low hC, Option.none_or, before_app, before_all A hA]
end Go.Proofs.Ytoaekmighinmhaa

namespace Go.Proofs.Ytoaekmighinmhaa
open Go.RowKit

def encP (b : Nat) : List Value := [.pointer (some ⟨b, 0, none⟩)]
def encPs (l : List Nat) : List Value := l.flatMap encP
theorem encP_len (b : Nat) : (encP b).length = 1 := rfl
theorem encP_one : ∀ e, ∀ u ∈ encP e, u.oneCell' = true := by
  intro e u hu
  rw [List.mem_singleton.1 hu]; rfl
theorem encEns_append (a b : List En) : encEns (a ++ b) = encEns a ++ encEns b := by simp [encEns]
theorem encPs_append (a b : List Nat) : encPs (a ++ b) = encPs a ++ encPs b := by simp [encPs]
theorem encEns_take (l : List En) (i : Nat) : (encEns l).take (i * 2) = encEns (l.take i) := flat_take encEn_len l i
theorem encPs_take (l : List Nat) (i : Nat) : (encPs l).take i = encPs (l.take i) := by have := flat_take encP_len l i; rwa [Nat.mul_one] at this
theorem encEns_drop (l : List En) (i : Nat) : (encEns l).drop (i * 2) = encEns (l.drop i) := flat_drop encEn_len l i
theorem encPs_drop (l : List Nat) (i : Nat) : (encPs l).drop i = encPs (l.drop i) := by have := flat_drop encP_len l i; rwa [Nat.mul_one] at this
theorem encEns_len (l : List En) : (encEns l).length = l.length * 2 := flat_length encEn_len l
theorem encPs_len (l : List Nat) : (encPs l).length = l.length := by have := flat_length encP_len l; rwa [Nat.mul_one] at this
theorem encEns_one (l : List En) : ∀ u ∈ encEns l, u.oneCell' = true := flat_one encEn_one l
theorem encPs_one (l : List Nat) : ∀ u ∈ encPs l, u.oneCell' = true := flat_one encP_one l
theorem own_toE {w : World} {base t n : Nat} {v : Value} {xs : List Value} (h : xs.length = n * 2 ∧ ((v = .slice none 0 0 ∧ n = 0) ∨ ∃ g cap cur, v = .slice (some ⟨g, 0, none⟩) n cap ∧ base ≤ g ∧ w.heap[g]? = some (.cells cur t (0, 0)) ∧ n ≤ cap ∧ cap ≤ maxLen ∧ cur.size = cap * 2 ∧ cur.toList.take (n * 2) = xs)) : w.ownsRow base t 2 v n xs := h
theorem own_ofE {w : World} {base t n : Nat} {v : Value} {xs : List Value} (h : w.ownsRow base t 2 v n xs) : xs.length = n * 2 ∧ ((v = .slice none 0 0 ∧ n = 0) ∨ ∃ g cap cur, v = .slice (some ⟨g, 0, none⟩) n cap ∧ base ≤ g ∧ w.heap[g]? = some (.cells cur t (0, 0)) ∧ n ≤ cap ∧ cap ≤ maxLen ∧ cur.size = cap * 2 ∧ cur.toList.take (n * 2) = xs) := h
theorem own_toP {w : World} {base t n : Nat} {v : Value} {xs : List Value} (h : xs.length = n ∧ ((v = .slice none 0 0 ∧ n = 0) ∨ ∃ g cap cur, v = .slice (some ⟨g, 0, none⟩) n cap ∧ base ≤ g ∧ w.heap[g]? = some (.cells cur t (0, 0)) ∧ n ≤ cap ∧ cap ≤ maxLen ∧ cur.size = cap ∧ cur.toList.take n = xs)) : w.ownsRow base t 1 v n xs := by
  unfold World.ownsRow
  simp only [Nat.mul_one]
  exact h
theorem own_ofP {w : World} {base t n : Nat} {v : Value} {xs : List Value} (h : w.ownsRow base t 1 v n xs) : xs.length = n ∧ ((v = .slice none 0 0 ∧ n = 0) ∨ ∃ g cap cur, v = .slice (some ⟨g, 0, none⟩) n cap ∧ base ≤ g ∧ w.heap[g]? = some (.cells cur t (0, 0)) ∧ n ≤ cap ∧ cap ≤ maxLen ∧ cur.size = cap ∧ cur.toList.take n = xs) := by
  unfold World.ownsRow at h
  simp only [Nat.mul_one] at h
  exact h

theorem info_parts {t : TypeId} {z : Value} {s b : Nat} (h : (Try.prog.info? t).map (fun i => (i.zero, i.size, i.bytes)) = some (some z, s, b)) : ∃ i, Try.prog.info? t = some i ∧ i.zero = some z ∧ i.size = s ∧ i.bytes = b := by
  obtain ⟨i, hi, hzz⟩ := Option.map_eq_some_iff.1 h
  simp only [Prod.mk.injEq] at hzz
  exact ⟨i, hi, hzz.1, hzz.2.1, hzz.2.2⟩
theorem infoE : (Try.prog.info? 34).map (fun i => (i.zero, i.size, i.bytes)) = some (some (.agg #[.string ⟨#[]⟩, .int .i64 0]), 2, 24) := by kernel_rfl
theorem infoP : (Try.prog.info? 62).map (fun i => (i.zero, i.size, i.bytes)) = some (some (.pointer none), 1, 8) := by kernel_rfl

theorem step_append_eq {P : Program} {ops : Array Oper} {o : Oper} {a : Act} {w : World} {K : Act → World → Prop} {Q : Exit → Act → World → Prop} {E : Prop}
    (hg : o.guard = none) (s x : Operand) (t tn : TypeId) (hop : o.op = Op.call { callee := Callee.builtin Builtin.append, args := #[s, x], argTypes := #[t, tn] })
    (vs vx : Value) (hs : a.eval s = vs) (hx : a.eval x = vx) (v' : Value) (w' : World) (hr : (Builtin.append_ #[t, tn] o.type #[vs, vx]).run P w = .ok v' w') (hK : K (a.put o.dst v') w') :
    if Region.wanted o (yielded ops a.tmps) = true then Oper.wp P o a w K Q else E := by
  have hw : Region.wanted o (yielded ops a.tmps) = true := by simp [Region.wanted, hg]
  rw [if_pos hw]
  unfold Oper.wp
  simp [execOp, hop, resolve, invoke, builtin, hs, hx, hr, Result.andThen]
  exact hK
theorem step_copy_eq {P : Program} {ops : Array Oper} {o : Oper} {a : Act} {w : World} {K : Act → World → Prop} {Q : Exit → Act → World → Prop} {E : Prop}
    (hg : o.guard = none) (s x : Operand) (t tn : TypeId) (hop : o.op = Op.call { callee := Callee.builtin Builtin.copy, args := #[s, x], argTypes := #[t, tn] })
    (vs vx : Value) (hs : a.eval s = vs) (hx : a.eval x = vx) (v' : Value) (w' : World) (hr : (Builtin.copy_ #[t, tn] o.type #[vs, vx]).run P w = .ok v' w') (hK : K (a.put o.dst v') w') :
    if Region.wanted o (yielded ops a.tmps) = true then Oper.wp P o a w K Q else E := by
  have hw : Region.wanted o (yielded ops a.tmps) = true := by simp [Region.wanted, hg]
  rw [if_pos hw]
  unfold Oper.wp
  simp [execOp, hop, resolve, invoke, builtin, hs, hx, hr, Result.andThen]
  exact hK
theorem setRow_grown {w : World} {B : Nat} (cs : Array Value) : w.grownBy (w.setRow B cs) (some B) :=
  ⟨rfl, rfl, rfl, by simp, fun k _ hk => setRow_other w B k cs (fun e => hk (by rw [e]))⟩
theorem below_row {B g : Nat} {w0 w : World} (hb : Below B w0 w) (hBg : B ≤ g) (cs : Array Value) : Below B w0 (w.setRow g cs) :=
  ⟨hb.os, hb.tape, hb.output, by simp only [setRow_size]; exact hb.size, fun k hk => by rw [setRow_other w g k cs (by omega)]; exact hb.block k hk⟩
end Go.Proofs.Ytoaekmighinmhaa
