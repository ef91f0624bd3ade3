/-
  Objects as JSON, their fields in one order or the other, and a name that comes twice: as plain data. No conditions beyond those stated.
-/
import Derived.Test.YtnkoblhdbccbeaaGreatDoorU16
namespace Go.Proofs.YtnkoblhdbccbeaaGreatDoor

theorem ins_snoc {α : Type} (nm : α → ByteArray) (cn : α → V) (acc : List (ByteArray × V)) (xs : List α) (x : α) : insAll nm cn acc (xs ++ [x]) = setF (nm x) (cn x) (insAll nm cn acc xs) := by
  unfold insAll
  rw [List.foldl_append, List.foldl_cons, List.foldl_nil]
theorem ins_rev (cn : ByteArray × V → V) : ∀ (xs : List (ByteArray × V)), Rises xs → insAll (fun p => p.1) cn [] xs.reverse = xs.map fun p => (p.1, cn p)
  | [], _ => rfl
  | x :: xs, h => by
    rw [List.reverse_cons, ins_snoc, ins_rev cn xs h.tail]
    cases xs with
    | nil => rfl
    | cons y r =>
      have h1 : cmpT x.1 y.1 < 0 := h.1
      have h2 := good_cmpT.anti x.1 y.1
      show setF x.1 (cn x) ((y.1, cn y) :: r.map fun p => (p.1, cn p)) = _
      simp only [setF]
      rw [if_neg (by omega), if_pos (by omega)]
      rfl

/-- a name that comes twice. -/
theorem membs_dup {g : List UInt8 → Except Int (V × List UInt8)} (b1 b2 b3 : List UInt8) (h1 : Bls b1) (h3 : Bls b3) (hg : ∀ l, g (b2 ++ l) = g l) {α : Type} (nm : α → ByteArray) (tx : α → List UInt8) (cn : α → V) (n0 : ByteArray) (hn0 : mend n0.data.toList = n0.data.toList) (R : List UInt8) :
    ∀ (xs : List α) (m : Nat) (acc : List (ByteArray × V)) (b : List UInt8), Bls b → xs ≠ [] → xs.length + 1 ≤ m → (∀ x ∈ xs, Reads g (tx x) (cn x) ∧ mend (nm x).data.toList = (nm x).data.toList) → (∀ x ∈ xs, getF (nm x) acc = none) → xs.Pairwise (fun x y => ¬ cmpT (nm y) (nm x) = 0) → (getF n0 (insAll nm cn acc xs)).isSome = true →
    membsP g m acc (b ++ (joinB b3 (xs.map fun x => fieldB b1 b2 (nm x) (tx x)) ++ 44 :: (quoteL n0.data.toList ++ R))) = .error 5
  | [], _, _, _, _, h, _, _, _, _, _ => absurd rfl h
  | x :: xs, 0, _, _, _, _, h, _, _, _, _ => by simp at h
  | [x], 1, _, _, _, _, h, _, _, _, _ => by simp at h
  | [x], m + 2, acc, b, hb, _, _, hr, hget, _, hsome => by
    have hx := field_read b1 b2 b h1 hb hg (nm x) (hr x (by simp)).2 (tx x) (cn x) (hr x (by simp)).1 acc (hget x (by simp)) (44 :: (quoteL n0.data.toList ++ R)) (stop_sep 44 (by decide) _)
    show membsP g (m + 2) acc (b ++ (fieldB b1 b2 (nm x) (tx x) ++ 44 :: (quoteL n0.data.toList ++ R))) = _
    rw [membsP]
    simp only [hx]
    rw [ends_false 125 (by decide)]
    simp only
    have hnm : (⟨(n0.data.toList).toArray⟩ : ByteArray) = n0 := by cases n0; rfl
    have hf : fieldP g (setF (nm x) (cn x) acc) (quoteL n0.data.toList ++ R) = .error 5 := by
      unfold fieldP
      rw [skip_hd (by rw [hd_append (quote_ne _), quote_hd]; decide), readL_quote, hn0]
      simp only [hnm]
      rw [if_pos (show (getF n0 (setF (nm x) (cn x) acc)).isSome = true from hsome)]
    rw [membsP]
    simp only [hf]
  | x :: y :: r, m + 1, acc, b, hb, _, hm, hr, hget, hd, hsome => by
    have hx := field_read b1 b2 b h1 hb hg (nm x) (hr x (by simp)).2 (tx x) (cn x) (hr x (by simp)).1 acc (hget x (by simp)) (44 :: (b3 ++ (joinB b3 ((y :: r).map fun x => fieldB b1 b2 (nm x) (tx x)) ++ 44 :: (quoteL n0.data.toList ++ R)))) (stop_sep 44 (by decide) _)
    have hd' := List.pairwise_cons.1 hd
    have ih := membs_dup b1 b2 b3 h1 h3 hg nm tx cn n0 hn0 R (y :: r) m (setF (nm x) (cn x) acc) b3 h3 (by simp) (by simpa using hm) (fun z hz => hr z (by simp [hz]))
      (fun z hz => by rw [get_set_other _ _ _ (hd'.1 z hz)]; exact hget z (by simp [hz])) hd'.2 hsome
    have e : b ++ (joinB b3 ((x :: y :: r).map fun x => fieldB b1 b2 (nm x) (tx x)) ++ 44 :: (quoteL n0.data.toList ++ R)) = b ++ (fieldB b1 b2 (nm x) (tx x) ++ 44 :: (b3 ++ (joinB b3 ((y :: r).map fun x => fieldB b1 b2 (nm x) (tx x)) ++ 44 :: (quoteL n0.data.toList ++ R)))) := by
      show b ++ ((fieldB b1 b2 (nm x) (tx x) ++ 44 :: (b3 ++ joinB b3 ((y :: r).map fun x => fieldB b1 b2 (nm x) (tx x)))) ++ 44 :: (quoteL n0.data.toList ++ R)) = _
      simp [List.append_assoc]
    rw [e, membsP]
    simp only [hx]
    rw [ends_false 125 (by decide)]
    simp only
    rw [ih]

/-- the fields' texts. -/
def namesT (xs : List (ByteArray × V)) : List UInt8 := joinB [32] (xs.map fun p => fieldB [32] [32] p.1 (printV 3 p.2))
theorem bls32 : Bls [32] := fun x hx => by
  rw [List.mem_singleton.1 hx]; exact .inr (.inr (.inr rfl))
theorem join_le (c B : Nat) (b : List UInt8) (hb : b.length ≤ c) : ∀ (xs : List (List UInt8)), (∀ x ∈ xs, x.length ≤ B) → (joinB b xs).length ≤ xs.length * (B + 1 + c)
  | [], _ => by simp [joinB]
  | [x], h => by
    have := h x (by simp)
    simp only [joinB, List.length_singleton]; omega
  | x :: y :: r, h => by
    have h1 := h x (by simp)
    have ih := join_le c B b hb (y :: r) fun z hz => h z (by simp [hz])
    show (x ++ 44 :: (b ++ joinB b (y :: r))).length ≤ _
    rw [List.length_append, List.length_cons, List.length_append]
    have e : (x :: y :: r).length * (B + 1 + c) = (y :: r).length * (B + 1 + c) + (B + 1 + c) := by rw [List.length_cons, Nat.succ_mul]
    omega

def cm2 (k : Nat) : List UInt8 := if k = 0 then [] else [44, 32]
theorem join_snoc : ∀ (xs : List (List UInt8)) (y : List UInt8), joinB [32] (xs ++ [y]) = joinB [32] xs ++ (cm2 xs.length ++ y)
  | [], y => rfl
  | [x], y => by simp [joinB, cm2]
  | x :: x' :: r, y => by
    have ih := join_snoc (x' :: r) y
    have e : cm2 (x :: x' :: r).length = cm2 (x' :: r).length := by simp [cm2]
    rw [e]
    show x ++ 44 :: ([32] ++ joinB [32] (x' :: r ++ [y])) = _
    rw [ih]
    simp [joinB]
theorem names_take {xs : List (ByteArray × V)} {k : Nat} {p : ByteArray × V} (h : xs[k]? = some p) : namesT (xs.take (k + 1)) = namesT (xs.take k) ++ (cm2 k ++ fieldB [32] [32] p.1 (printV 3 p.2)) := by
  have hlt := (List.getElem?_eq_some_iff.1 h).1
  have e : xs.take (k + 1) = xs.take k ++ [p] := by rw [List.take_add_one, h]; rfl
  unfold namesT
  rw [e, List.map_append, List.map_cons, List.map_nil, join_snoc, List.length_map, List.length_take, Nat.min_eq_left (by omega)]
theorem join_part : ∀ (xs ys : List (List UInt8)), (joinB [32] xs).length ≤ (joinB [32] (xs ++ ys)).length
  | [], ys => by simp [joinB]
  | [x], [] => by simp
  | [x], y :: ys => by simp [joinB]
  | x :: x' :: r, ys => by
    have ih := join_part (x' :: r) ys
    show (x ++ 44 :: ([32] ++ joinB [32] (x' :: r))).length ≤ (x ++ 44 :: ([32] ++ joinB [32] (x' :: r ++ ys))).length
    simp only [List.length_append, List.length_cons]
    omega
theorem names_part (xs : List (ByteArray × V)) (k : Nat) : (namesT (xs.take k)).length ≤ (namesT xs).length := by
  have := join_part ((xs.take k).map fun p => fieldB [32] [32] p.1 (printV 3 p.2)) ((xs.drop k).map fun p => fieldB [32] [32] p.1 (printV 3 p.2))
  rw [← List.map_append, List.take_append_drop] at this
  exact this
theorem quote_name (i : Nat) : quoteL (nameAt i).data.toList = 34 :: ((nameAt i).data.toList ++ [34]) := by
  unfold nameAt
  split <;> rfl

/-- an object of the law's: its fields in one order or the other. -/
structure Order (o : V) (xs : List (ByteArray × V)) : Prop where
  same : xs = o.fields ∨ xs = o.fields.reverse
theorem Order.facts {o : V} {xs : List (ByteArray × V)} (h : Order o xs) (ho : Nice 3 o) :
    (∀ p ∈ xs, (∃ i, p.1 = nameAt i) ∧ Nice 2 p.2) ∧ xs.length = o.fields.length ∧ o.fields.length ≤ 4 ∧ xs.Pairwise (fun x y => ¬ cmpT y.1 x.1 = 0) ∧ insAll (fun p : ByteArray × V => p.1) (fun p => canV 3 p.2) [] xs = o.fields.map fun p => (p.1, canV 3 p.2) := by
  obtain ⟨_, f4, hri, _, hfi⟩ := ho.inner
  have hp : o.fields.Pairwise fun a b => cmpT a.1 b.1 < 0 := by
    have hall : ∀ (l : List (ByteArray × V)), Rises l → l.Pairwise fun a b => cmpT a.1 b.1 < 0 := by
      intro l
      induction l with
      | nil => intro _; exact .nil
      | cons a l ihl => intro hr; exact List.pairwise_cons.2 ⟨fun b hb => hr.all b hb, ihl hr.tail⟩
    exact hall _ hri
  have hin : ∀ p ∈ o.fields, (∃ i, p.1 = nameAt i) ∧ Nice 2 p.2 := fun p hp => by
    obtain ⟨hi, m, e, hm⟩ := hfi p hp
    obtain rfl : m = 2 := by omega
    exact ⟨hi, hm⟩
  rcases h.same with rfl | rfl
  · refine ⟨hin, rfl, f4, hp.imp fun {a b} hab => ?_, ?_⟩
    · have := good_cmpT.anti a.1 b.1; omega
    · rw [ins_rises (fun _ => rfl) o.fields [] hri (fun a ha => by cases ha)]; rfl
  · refine ⟨fun p hp => hin p (List.mem_reverse.1 hp), List.length_reverse, f4, ?_, ins_rev _ _ hri⟩
    rw [List.pairwise_reverse]
    exact hp.imp fun {a b} hab => by omega

theorem names_len {o : V} {xs : List (ByteArray × V)} (h : Order o xs) (ho : Nice 3 o) : (namesT xs).length ≤ 2000 := by
  obtain ⟨h1, h2, h3, _, _⟩ := h.facts ho
  have := join_le 1 460 [32] (by decide) (xs.map fun p => fieldB [32] [32] p.1 (printV 3 p.2)) fun y hy => by
    obtain ⟨z, hz, rfl⟩ := List.mem_map.1 hy
    obtain ⟨⟨i, hi⟩, hn⟩ := h1 z hz
    have hl : (printV 3 z.2).length ≤ bnd 2 := print_len 2 z.2 hn
    unfold fieldB
    rw [hi]
    simp only [List.length_append, List.length_cons, List.length_nil, name_len]
    have : bnd 2 = 446 := rfl
    omega
  rw [List.length_map] at this
  have h4 : xs.length * (460 + 1 + 1) ≤ 4 * 462 := Nat.mul_le_mul_right 462 (by omega)
  unfold namesT
  omega
theorem names_reads {o : V} {xs : List (ByteArray × V)} (h : Order o xs) (ho : Nice 3 o) : ∀ p ∈ xs, Reads (valueP 15) (printV 3 p.2) (canV 3 p.2) ∧ mend p.1.data.toList = p.1.data.toList := fun p hp => by
  obtain ⟨⟨i, hi⟩, hn⟩ := (h.facts ho).1 p hp
  exact ⟨value_print 2 p.2 hn 15 (by decide), by rw [hi]; exact name_mend i⟩
theorem names_hd {p : ByteArray × V} {r : List (ByteArray × V)} (R : List UInt8) : hd (namesT (p :: r) ++ R) = 34 ∧ namesT (p :: r) ++ R ≠ [] := by
  obtain ⟨T, hT⟩ : ∃ T, namesT (p :: r) ++ R = quoteL p.1.data.toList ++ T := by
    unfold namesT
    cases r with
    | nil => exact ⟨[32] ++ 58 :: ([32] ++ printV 3 p.2) ++ R, by simp [joinB, fieldB]⟩
    | cons y r => exact ⟨[32] ++ 58 :: ([32] ++ printV 3 p.2) ++ (44 :: ([32] ++ joinB [32] ((y :: r).map fun p => fieldB [32] [32] p.1 (printV 3 p.2)))) ++ R, by simp [joinB, fieldB]⟩
  rw [hT]
  exact ⟨by rw [hd_append (quote_ne _), quote_hd], by simp [quoteL]⟩

theorem obj_value (n : Nat) (X : List UInt8) : valueP (n + 1) (123 :: X) = objP (valueP n) X := by
  have hs : skip (123 :: X) = 123 :: X := skip_hd (show (123 : Nat) ≠ 9 ∧ (123 : Nat) ≠ 10 ∧ (123 : Nat) ≠ 13 ∧ (123 : Nat) ≠ 32 by decide)
  simp only [valueP, hs]
  rw [show hd (123 :: X) = 123 from rfl, if_neg (by decide), if_neg (by decide), if_neg (by decide), if_pos rfl]
  rfl

theorem parse_names {o : V} {xs : List (ByteArray × V)} (h : Order o xs) (ho : Nice 3 o) (hk : o.kind = 5) : parseP (123 :: (namesT xs ++ [125])) = .ok (canV 4 o) := by
  have hl := names_len h ho
  obtain ⟨h1, h2, h3, h4, h5⟩ := h.facts ho
  have hc : canV 4 o = objV (o.fields.map fun p => (p.1, canV 3 p.2)) := by simp [canV, hk]
  have hv : valueP 16 (123 :: (namesT xs ++ [125])) = .ok (canV 4 o, []) := by
    rw [obj_value, hc]
    cases xs with
    | nil =>
      have : o.fields = [] := List.eq_nil_of_length_eq_zero (by rw [← h2]; rfl)
      rw [this]
      rfl
    | cons p r =>
      have hh := names_hd (p := p) (r := r) [125]
      have hj := membs_join (g := valueP 15) [32] [32] [32] bls32 bls32 (fun l => value_bls 15 [32] l bls32) (fun p : ByteArray × V => p.1) (fun p => printV 3 p.2) (fun p => canV 3 p.2) [] (p :: r) ((namesT (p :: r) ++ [125]).length + 1) [] [] (fun _ h => by cases h) (by simp) (by
        have := join_len [32] ((p :: r).map fun p => fieldB [32] [32] p.1 (printV 3 p.2))
        rw [List.length_map] at this
        unfold namesT
        simp only [List.length_append, List.length_cons] at this ⊢
        omega) (names_reads h ho) (fun _ _ => rfl) h4
      unfold objP
      rw [skip_hd (by rw [hh.1]; decide), if_neg (by rw [hh.1]; decide)]
      rw [show ([] : List UInt8) ++ (joinB [32] ((p :: r).map fun x => fieldB [32] [32] x.1 (printV 3 x.2)) ++ 125 :: []) = namesT (p :: r) ++ [125] from rfl] at hj
      rw [hj, h5]
  rw [parse_value (by rw [List.length_cons, List.length_append, List.length_singleton]; omega), hv]
  rfl

theorem parse_dup {o : V} {xs : List (ByteArray × V)} (h : Order o xs) (ho : Nice 3 o) {p0 : ByteArray × V} {r0 : List (ByteArray × V)} (hf : o.fields = p0 :: r0) : parseP (123 :: (namesT xs ++ 44 :: (quoteL p0.1.data.toList ++ [58, 48, 125]))) = .error 5 := by
  have hl := names_len h ho
  obtain ⟨h1, h2, h3, h4, h5⟩ := h.facts ho
  obtain ⟨_, _, _, _, hfi⟩ := ho.inner
  obtain ⟨⟨i0, hi0⟩, _⟩ := hfi p0 (by rw [hf]; simp)
  have hne : xs ≠ [] := fun e => by rw [e, hf] at h2; simp at h2
  obtain ⟨p, r, rfl⟩ : ∃ p r, xs = p :: r := by
    cases xs with
    | nil => exact absurd rfl hne
    | cons p r => exact ⟨p, r, rfl⟩
  have hv : valueP 16 (123 :: (namesT (p :: r) ++ 44 :: (quoteL p0.1.data.toList ++ [58, 48, 125]))) = .error 5 := by
    rw [obj_value]
    have hh := names_hd (p := p) (r := r) (44 :: (quoteL p0.1.data.toList ++ [58, 48, 125]))
    have hj := membs_dup (g := valueP 15) [32] [32] [32] bls32 bls32 (fun l => value_bls 15 [32] l bls32) (fun p : ByteArray × V => p.1) (fun p => printV 3 p.2) (fun p => canV 3 p.2) p0.1 (by rw [hi0]; exact name_mend i0) [58, 48, 125] (p :: r) ((namesT (p :: r) ++ 44 :: (quoteL p0.1.data.toList ++ [58, 48, 125])).length + 1) [] [] (fun _ h => by cases h) (by simp) (by
      have := join_len [32] ((p :: r).map fun p => fieldB [32] [32] p.1 (printV 3 p.2))
      rw [List.length_map] at this
      unfold namesT
      simp only [List.length_append, List.length_cons] at this ⊢
      omega) (names_reads h ho) (fun _ _ => rfl) h4 (by
        rw [h5, hf]
        show (if cmpT p0.1 p0.1 = 0 then some (canV 3 p0.2) else _).isSome = true
        rw [if_pos (good_cmpT.refl _)]
        rfl)
    unfold objP
    rw [skip_hd (by rw [hh.1]; decide), if_neg (by rw [hh.1]; decide)]
    rw [show ([] : List UInt8) ++ (joinB [32] ((p :: r).map fun x => fieldB [32] [32] x.1 (printV 3 x.2)) ++ 44 :: (quoteL p0.1.data.toList ++ [58, 48, 125])) = namesT (p :: r) ++ 44 :: (quoteL p0.1.data.toList ++ [58, 48, 125]) from rfl] at hj
    rw [hj]
  have hq : (quoteL p0.1.data.toList).length = 3 := by rw [hi0]; exact name_len i0
  rw [parse_value (by simp only [List.length_cons, List.length_append, List.length_nil, hq]; omega), hv]
end Go.Proofs.YtnkoblhdbccbeaaGreatDoor
