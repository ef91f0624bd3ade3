/-
  What is printed of a value that the law makes is read as it was: as plain data. No conditions beyond those stated.
-/
import Derived.Test.YtdcaohnaiepllaaGreatDoorJRound
import Derived.Test.YtdcaohnaiepllaaGreatDoorJW3
import Derived.Test.YtdcaohnaiepllaaGreatDoorJFs
namespace Go.Proofs.YtdcaohnaiepllaaGreatDoor

/-- a value with nothing beside its kind. -/
def canV : Nat → V → V
  | 0, _ => nulV
  | n + 1, v =>
    if v.kind = 1 then boolV v.num
    else if v.kind = 2 then intV v.num
    else if v.kind = 3 then textV v.text
    else if v.kind = 4 then listV (v.list.map (canV n))
    else if v.kind = 5 then objV (v.fields.map fun p => (p.1, canV n p.2))
    else nulV

theorem word_mend (i : Nat) : mend (wordAt i).data.toList = (wordAt i).data.toList := by
  unfold wordAt
  split <;> kernel_rfl
theorem name_mend (i : Nat) : mend (nameAt i).data.toList = (nameAt i).data.toList := by
  unfold nameAt
  split <;> kernel_rfl
theorem word_len (i : Nat) : (quoteL (wordAt i).data.toList).length ≤ 18 := by
  unfold wordAt
  split <;> decide
theorem name_len (i : Nat) : (quoteL (nameAt i).data.toList).length = 3 := by
  unfold nameAt
  split <;> rfl

theorem Nice.parts {n : Nat} {v : V} (h : Nice n v) : 0 ≤ v.kind ∧ v.kind ≤ 5 ∧ I64 v.num ∧ Wd v.kind v.num v.text := by
  cases n with
  | zero => exact ⟨h.1, h.2.1, h.2.2.1, h.2.2.2.1⟩
  | succ n => exact ⟨h.1, h.2.1, h.2.2.1, h.2.2.2.1⟩
theorem Nice.inner {n : Nat} {v : V} (h : Nice n v) : v.list.length ≤ 3 ∧ v.fields.length ≤ 4 ∧ Rises v.fields ∧ (∀ x ∈ v.list, ∃ m, n = m + 1 ∧ Nice m x) ∧ (∀ p ∈ v.fields, (∃ i, p.1 = nameAt i) ∧ ∃ m, n = m + 1 ∧ Nice m p.2) := by
  cases n with
  | zero =>
    obtain ⟨_, _, _, _, h5, h6⟩ := h
    rw [h5, h6]
    exact ⟨by simp, by simp, trivial, fun x hx => (by cases hx), fun x hx => (by cases hx)⟩
  | succ n =>
    obtain ⟨_, _, _, _, h5, h6, h7, h8, h9⟩ := h
    exact ⟨h5, h6, h7, fun x hx => ⟨n, rfl, h8 x hx⟩, fun p hp => ⟨(h9 p hp).1, n, rfl, (h9 p hp).2⟩⟩

/-- what a value's text begins with. -/
theorem print_hd (n : Nat) (v : V) (h : Nice n v) : printV (n + 1) v ≠ [] ∧ hd (printV (n + 1) v) ≠ 93 ∧ hd (printV (n + 1) v) ≠ 125 ∧ hd (printV (n + 1) v) ≠ 9 ∧ hd (printV (n + 1) v) ≠ 10 ∧ hd (printV (n + 1) v) ≠ 13 ∧ hd (printV (n + 1) v) ≠ 32 := by
  obtain ⟨k0, k1, _, _⟩ := h.parts
  rw [printV_step]
  obtain e | e | e | e | e | e : v.kind = 0 ∨ v.kind = 1 ∨ v.kind = 2 ∨ v.kind = 3 ∨ v.kind = 4 ∨ v.kind = 5 := by omega
  · simp [stepL, e, hd]
  · by_cases hn : v.num = 1 <;> simp [stepL, e, hn, hd]
  · have h1 := itoa_hd v.num
    have h2 := itoa_ne v.num
    simp only [stepL, e]
    simp only [show ¬ (2 : Int) = 0 by decide, show ¬ (2 : Int) = 1 by decide, if_false, if_true]
    exact ⟨h2, by omega, by omega, by omega, by omega, by omega, by omega⟩
  · simp [stepL, e, hd, quoteL]
  · simp [stepL, e, hd]
  · simp [stepL, e, hd]

theorem prefix_app (a R : List UInt8) : Lib.hasPrefix (a ++ R) a = true := by
  unfold Lib.hasPrefix
  rw [List.isPrefixOf_iff_prefix]
  exact List.prefix_append a R

theorem ins_rises {nm : ByteArray × V → ByteArray} {cn : ByteArray × V → V} (hnm : ∀ p, nm p = p.1) : ∀ (xs : List (ByteArray × V)) (acc : List (ByteArray × V)), Rises xs → (∀ a ∈ acc, ∀ x ∈ xs, cmpT a.1 x.1 < 0) → insAll nm cn acc xs = acc ++ xs.map fun p => (p.1, cn p)
  | [], acc, _, _ => by simp [insAll]
  | x :: xs, acc, hr, ha => by
    have hlast : ∀ (l : List (ByteArray × V)), (∀ a ∈ l, cmpT a.1 x.1 < 0) → setF x.1 (cn x) l = l ++ [(x.1, cn x)] := by
      intro l
      induction l with
      | nil => intro _; rfl
      | cons a l ih =>
        intro hl
        have h0 := hl a (by simp)
        simp only [setF, if_neg (show ¬ cmpT a.1 x.1 = 0 by omega), if_neg (show ¬ 0 < cmpT a.1 x.1 by omega)]
        rw [ih fun b hb => hl b (by simp [hb])]
        rfl
    have h1 : insAll nm cn acc (x :: xs) = insAll nm cn (setF (nm x) (cn x) acc) xs := rfl
    rw [h1, hnm, hlast acc fun a h => ha a h x (by simp), ins_rises hnm xs _ hr.tail ?_]
    · simp
    · intro a hm y hy
      rcases List.mem_append.1 hm with hm | hm
      · exact ha a hm y (by simp [hy])
      · rw [List.mem_singleton.1 hm]
        exact hr.all y hy

/-- what is printed is read as it was. -/
theorem value_print : ∀ (n : Nat) (v : V), Nice n v → ∀ m, n < m → Reads (valueP m) (printV (n + 1) v) (canV (n + 1) v) := by
  intro n
  induction n using Nat.strongRecOn with
  | _ n ih =>
    intro v hv m hm R hR
    obtain ⟨m, rfl⟩ : ∃ k, m = k + 1 := ⟨m - 1, by omega⟩
    obtain ⟨k0, k1, ⟨i0, i1⟩, ⟨⟨w, hw⟩, hb⟩⟩ := hv.parts
    obtain ⟨_, _, hri, hli, hfi⟩ := hv.inner
    have hph := print_hd n v hv
    have hhd : hd (printV (n + 1) v ++ R) = hd (printV (n + 1) v) := hd_append hph.1
    have hsk : skip (printV (n + 1) v ++ R) = printV (n + 1) v ++ R := skip_hd (by rw [hhd]; exact ⟨hph.2.2.2.1, hph.2.2.2.2.1, hph.2.2.2.2.2.1, hph.2.2.2.2.2.2⟩)
    have hval : valueP (m + 1) (printV (n + 1) v ++ R) = (if hd (printV (n + 1) v) = 45 ∨ (48 ≤ hd (printV (n + 1) v) ∧ hd (printV (n + 1) v) ≤ 57) then numP (printV (n + 1) v ++ R)
      else if hd (printV (n + 1) v) = 34 then textP (printV (n + 1) v ++ R) else if hd (printV (n + 1) v) = 91 then listP (valueP m) ((printV (n + 1) v ++ R).drop 1)
      else if hd (printV (n + 1) v) = 123 then objP (valueP m) ((printV (n + 1) v ++ R).drop 1) else wordP (printV (n + 1) v ++ R)) := by
      simp only [valueP, hsk, hhd]
    rw [hval]
    clear hval hsk hhd
    obtain e | e | e | e | e | e : v.kind = 0 ∨ v.kind = 1 ∨ v.kind = 2 ∨ v.kind = 3 ∨ v.kind = 4 ∨ v.kind = 5 := by omega
    · have hp : printV (n + 1) v = wNull := by rw [printV_step]; simp [stepL, e]
      have hc : canV (n + 1) v = nulV := by simp [canV, e]
      rw [hp, hc]
      rw [if_neg (by decide), if_neg (by decide), if_neg (by decide), if_neg (by decide)]
      unfold wordP
      rw [if_pos (prefix_app wNull R)]
      rfl
    · have hc : canV (n + 1) v = boolV v.num := by simp [canV, e]
      rcases hb e with h0 | h1
      · have hp : printV (n + 1) v = wFalse := by rw [printV_step]; simp [stepL, e, h0]
        rw [hp, hc, h0]
        rw [if_neg (by decide), if_neg (by decide), if_neg (by decide), if_neg (by decide)]
        unfold wordP
        rw [if_neg (show ¬ Lib.hasPrefix (wFalse ++ R) wNull = true by simp [Lib.hasPrefix, List.isPrefixOf]), if_pos (prefix_app wFalse R)]
        rfl
      · have hp : printV (n + 1) v = wTrue := by rw [printV_step]; simp [stepL, e, h1]
        rw [hp, hc, h1]
        rw [if_neg (by decide), if_neg (by decide), if_neg (by decide), if_neg (by decide)]
        unfold wordP
        rw [if_neg (show ¬ Lib.hasPrefix (wTrue ++ R) wNull = true by simp [Lib.hasPrefix, List.isPrefixOf]), if_neg (show ¬ Lib.hasPrefix (wTrue ++ R) wFalse = true by simp [Lib.hasPrefix, List.isPrefixOf]), if_pos (prefix_app wTrue R)]
        rfl
    · have hp : printV (n + 1) v = Lib.itoa v.num := by rw [printV_step]; simp [stepL, e]
      have hc : canV (n + 1) v = intV v.num := by simp [canV, e]
      rw [hp, hc, if_pos (itoa_hd v.num)]
      exact num_itoa v.num i0 i1 R hR.1 hR.2
    · have hp : printV (n + 1) v = quoteL v.text.data.toList := by rw [printV_step]; simp [stepL, e]
      have hc : canV (n + 1) v = textV v.text := by simp [canV, e]
      rw [hp, hc, if_neg (by rw [quote_hd]; decide), if_pos (quote_hd _)]
      unfold textP
      rw [readL_quote, show mend v.text.data.toList = v.text.data.toList by rw [hw]; exact word_mend w]
      simp only [drop_app]
    · have hp : printV (n + 1) v = 91 :: (sepBy (v.list.map (printV n)) ++ [93]) := by rw [printV_step]; simp [stepL, e]
      have hc : canV (n + 1) v = listV (v.list.map (canV n)) := by simp [canV, e]
      rw [hp, hc, show hd (91 :: (sepBy (v.list.map (printV n)) ++ [93])) = 91 from rfl, if_neg (by decide), if_neg (by decide), if_pos rfl]
      have hdr : (91 :: (sepBy (v.list.map (printV n)) ++ [93]) ++ R).drop 1 = sepBy (v.list.map (printV n)) ++ 93 :: R := by simp
      rw [hdr, ← join_sep]
      clear hdr hp hc hph
      have hrd : ∀ x ∈ v.list, Reads (valueP m) (printV n x) (canV n x) := fun x hx => by
        obtain ⟨k, rfl, hk⟩ := hli x hx
        exact ih k (by omega) x hk m (by omega)
      cases hlist : v.list with
      | nil =>
        show listP (valueP m) (93 :: R) = .ok (listV [], R)
        unfold listP
        rw [skip_hd (l := 93 :: R) (show (93 : Nat) ≠ 9 ∧ (93 : Nat) ≠ 10 ∧ (93 : Nat) ≠ 13 ∧ (93 : Nat) ≠ 32 by decide), if_pos (show hd (93 :: R) = 93 from rfl)]
        rfl
      | cons x xs =>
        rw [hlist] at hrd hli
        have hj := elems_join (g := valueP m) [] (fun l => rfl) (printV n) (canV n) R (x :: xs) ((joinB [] ((x :: xs).map (printV n)) ++ 93 :: R).length + 1) [] (by simp) (by
          have := join_len [] ((x :: xs).map (printV n))
          rw [List.length_map] at this
          simp only [List.length_append, List.length_cons] at this ⊢
          omega) hrd
        have hx := hli x (by simp)
        obtain ⟨k, rfl, hk⟩ := hx
        have hxh := print_hd k x hk
        obtain ⟨T, hT⟩ : ∃ T, joinB [] ((x :: xs).map (printV (k + 1))) ++ 93 :: R = printV (k + 1) x ++ T := by
          cases xs with
          | nil => exact ⟨93 :: R, rfl⟩
          | cons y r => exact ⟨44 :: (joinB [] ((y :: r).map (printV (k + 1))) ++ 93 :: R), by simp [joinB]⟩
        have hsk : skip (joinB [] ((x :: xs).map (printV (k + 1))) ++ 93 :: R) = joinB [] ((x :: xs).map (printV (k + 1))) ++ 93 :: R := by
          rw [hT]
          exact skip_hd (by rw [hd_append hxh.1]; exact ⟨hxh.2.2.2.1, hxh.2.2.2.2.1, hxh.2.2.2.2.2.1, hxh.2.2.2.2.2.2⟩)
        unfold listP
        rw [hsk, if_neg (by rw [hT, hd_append hxh.1]; exact hxh.2.1), hj]
        rfl
    · have hp : printV (n + 1) v = 123 :: (sepBy (v.fields.map (fieldL n)) ++ [125]) := by rw [printV_step]; simp [stepL, e]
      have hc : canV (n + 1) v = objV (v.fields.map fun p => (p.1, canV n p.2)) := by simp [canV, e]
      rw [hp, hc, show hd (123 :: (sepBy (v.fields.map (fieldL n)) ++ [125])) = 123 from rfl, if_neg (by decide), if_neg (by decide), if_neg (by decide), if_pos rfl]
      have hdr : (123 :: (sepBy (v.fields.map (fieldL n)) ++ [125]) ++ R).drop 1 = sepBy (v.fields.map (fieldL n)) ++ 125 :: R := by simp
      rw [hdr, ← join_sep]
      clear hdr hp hc hph
      have hrd : ∀ x ∈ v.fields, Reads (valueP m) (printV n x.2) (canV n x.2) ∧ mend x.1.data.toList = x.1.data.toList := fun x hx => by
        obtain ⟨⟨i, hi⟩, k, rfl, hk⟩ := hfi x hx
        exact ⟨ih k (by omega) x.2 hk m (by omega), by rw [hi]; exact name_mend i⟩
      cases hlist : v.fields with
      | nil =>
        show objP (valueP m) (125 :: R) = .ok (objV [], R)
        unfold objP
        rw [skip_hd (l := 125 :: R) (show (125 : Nat) ≠ 9 ∧ (125 : Nat) ≠ 10 ∧ (125 : Nat) ≠ 13 ∧ (125 : Nat) ≠ 32 by decide), if_pos (show hd (125 :: R) = 125 from rfl)]
        rfl
      | cons x xs =>
        rw [hlist] at hrd hri
        have hfe : ((x :: xs).map (fieldL n)) = (x :: xs).map fun p => fieldB [] [] p.1 (printV n p.2) := by
          apply List.map_congr_left
          intro p _
          simp [fieldL, fieldB]
        have hpw : (x :: xs).Pairwise fun a b => ¬ cmpT b.1 a.1 = 0 := by
          have hall : ∀ (l : List (ByteArray × V)), Rises l → l.Pairwise fun a b => ¬ cmpT b.1 a.1 = 0 := by
            intro l
            induction l with
            | nil => intro _; exact .nil
            | cons a l ihl =>
              intro hr
              refine List.pairwise_cons.2 ⟨fun b hb => ?_, ihl hr.tail⟩
              have h1 := hr.all b hb
              have h2 := good_cmpT.anti a.1 b.1
              omega
          exact hall _ hri
        rw [hfe]
        have hj := membs_join (g := valueP m) [] [] [] (fun _ h => by cases h) (fun _ h => by cases h) (fun l => rfl) (fun p : ByteArray × V => p.1) (fun p => printV n p.2) (fun p => canV n p.2) R (x :: xs) ((joinB [] ((x :: xs).map fun p => fieldB [] [] p.1 (printV n p.2)) ++ 125 :: R).length + 1) [] [] (fun _ h => by cases h) (by simp) (by
          have := join_len [] ((x :: xs).map fun p => fieldB [] [] p.1 (printV n p.2))
          rw [List.length_map] at this
          simp only [List.length_append, List.length_cons] at this ⊢
          omega) hrd (fun _ _ => rfl) hpw
        obtain ⟨T, hT⟩ : ∃ T, joinB [] ((x :: xs).map fun p => fieldB [] [] p.1 (printV n p.2)) ++ 125 :: R = quoteL x.1.data.toList ++ T := by
          cases xs with
          | nil => exact ⟨58 :: (printV n x.2 ++ 125 :: R), by simp [joinB, fieldB]⟩
          | cons y r => exact ⟨58 :: (printV n x.2 ++ 44 :: (joinB [] ((y :: r).map fun p => fieldB [] [] p.1 (printV n p.2)) ++ 125 :: R)), by simp [joinB, fieldB]⟩
        have hsk : skip (joinB [] ((x :: xs).map fun p => fieldB [] [] p.1 (printV n p.2)) ++ 125 :: R) = joinB [] ((x :: xs).map fun p => fieldB [] [] p.1 (printV n p.2)) ++ 125 :: R := by
          rw [hT]
          exact skip_hd (by rw [hd_append (quote_ne _), quote_hd]; decide)
        unfold objP
        rw [hsk, if_neg (by rw [hT, hd_append (quote_ne _), quote_hd]; decide)]
        rw [show ([] : List UInt8) ++ (joinB [] ((x :: xs).map fun p => fieldB [] [] p.1 (printV n p.2)) ++ 125 :: R) = joinB [] ((x :: xs).map fun p => fieldB [] [] p.1 (printV n p.2)) ++ 125 :: R from rfl] at hj
        rw [hj]
        show Except.ok (objV (insAll (fun p : ByteArray × V => p.1) (fun p => canV n p.2) [] (x :: xs)), R) = _
        rw [ins_rises (fun _ => rfl) (x :: xs) [] hri (fun a ha => by cases ha)]
        rfl
end Go.Proofs.YtdcaohnaiepllaaGreatDoor
