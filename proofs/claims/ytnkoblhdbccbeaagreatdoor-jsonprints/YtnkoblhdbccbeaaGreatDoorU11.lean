/-
  Fields whose names rise: where a name stands. No conditions beyond those stated.
  What is printed of a value that the law makes is read as it was: as plain data. No conditions beyond those stated.
  package text's Valid by its contract: a text is UTF-8. Condition: the tables of package utf8 lie as they are laid.
  package value's Depth by its contract. No conditions beyond those stated.
-/
import Derived.Test.YtnkoblhdbccbeaaGreatDoorU10
import Derived.Test.YtnkoblhdbccbeaaGreatDoorU4
import Derived.Shelf.Unicode.ValidAny
import Derived.Lib.OthersKept
namespace Go.Proofs.YtnkoblhdbccbeaaGreatDoor

theorem aheadN_le (name : ByteArray) : ∀ ps : List (ByteArray × V), aheadN name ps ≤ ps.length
  | [] => Nat.le_refl _
  | f :: fs => by
    have := aheadN_le name fs
    simp only [aheadN, List.length_cons]
    split <;> omega
theorem aheadN_lt (name : ByteArray) : ∀ (ps : List (ByteArray × V)) (j : Nat) (x : ByteArray × V), j < aheadN name ps → ps[j]? = some x → cmpT x.1 name < 0
  | [], _, _, h, _ => by simp [aheadN] at h
  | f :: fs, 0, x, h, hx => by
    simp only [aheadN] at h
    split at h
    · rename_i h0
      simp at hx; subst hx; exact h0
    · omega
  | f :: fs, j + 1, x, h, hx => by
    simp only [aheadN] at h
    split at h
    · exact aheadN_lt name fs j x (by omega) (by simpa using hx)
    · omega
theorem Rises.all {f : ByteArray × V} : ∀ {fs : List (ByteArray × V)}, Rises (f :: fs) → ∀ x ∈ fs, cmpT f.1 x.1 < 0
  | [], _, x, hx => by cases hx
  | g :: fs, h, x, hx => by
    rcases List.mem_cons.1 hx with rfl | hx
    · exact h.1
    · exact good_cmpT.lt_left h.1 (by have := Rises.all (f := g) h.2 x hx; omega)
theorem aheadN_ge (name : ByteArray) : ∀ (ps : List (ByteArray × V)), Rises ps → ∀ (j : Nat) (x : ByteArray × V), aheadN name ps ≤ j → ps[j]? = some x → 0 ≤ cmpT x.1 name
  | [], _, _, _, _, hx => by simp at hx
  | f :: fs, hr, j, x, h, hx => by
    simp only [aheadN] at h
    split at h
    · cases j with
      | zero => omega
      | succ j => exact aheadN_ge name fs hr.tail j x (by omega) (by simpa using hx)
    · rename_i h0
      cases j with
      | zero => simp at hx; subst hx; omega
      | succ j =>
        have hm : x ∈ fs := List.mem_of_getElem? (by simpa using hx)
        have h1 := hr.all x hm
        have a1 := good_cmpT.anti f.1 name
        have a2 := good_cmpT.anti name x.1
        have h2 : cmpT name x.1 < 0 := good_cmpT.lt_right (by omega) h1
        omega
theorem aheadN_there (name : ByteArray) : ∀ (ps : List (ByteArray × V)), Rises ps → (∀ x, ps[aheadN name ps]? = some x → (cmpT x.1 name == 0) = (getF name ps).isSome) ∧ (aheadN name ps = ps.length → (getF name ps).isSome = false)
  | [], _ => ⟨fun x hx => by simp at hx, fun _ => rfl⟩
  | f :: fs, hr => by
    have ih := aheadN_there name fs hr.tail
    by_cases h0 : cmpT f.1 name < 0
    · simp only [aheadN, if_pos h0]
      rw [getF_cons, if_neg (by omega)]
      refine ⟨fun x hx => ih.1 x (by simpa using hx), fun h => ih.2 (by simpa using h)⟩
    · simp only [aheadN, if_neg h0]
      refine ⟨fun x hx => ?_, fun h => by simp at h⟩
      simp at hx
      subst hx
      by_cases h1 : cmpT f.1 name = 0
      · rw [getF_cons, if_pos h1, h1]; rfl
      · rw [get_above hr (by omega)]
        simp [h1]
theorem set_ahead (name : ByteArray) (x : V) : ∀ (ps : List (ByteArray × V)), getF name ps = none → setF name x ps = ps.take (aheadN name ps) ++ (name, x) :: ps.drop (aheadN name ps)
  | [], _ => rfl
  | f :: fs, h => by
    rw [getF_cons] at h
    by_cases h0 : cmpT f.1 name = 0
    · rw [if_pos h0] at h; cases h
    · rw [if_neg h0] at h
      by_cases h1 : cmpT f.1 name < 0
      · simp only [setF, if_neg h0, if_neg (show ¬ 0 < cmpT f.1 name by omega), aheadN, if_pos h1, List.take_succ_cons, List.drop_succ_cons, List.cons_append]
        rw [set_ahead name x fs h]
      · simp only [setF, if_neg h0, if_pos (show 0 < cmpT f.1 name by omega), aheadN, if_neg h1, List.take_zero, List.drop_zero, List.nil_append]

/-- the search, over plain fields. -/
theorem Search_is (n : Nat) (xs : List Fl) (sa : Value) (name : ByteArray) (w : World) {p : Bool} (hp : (getF name (xs.map Fl.pair)).isSome = p)
    (ha : RowAt (fun _ => True) w 52 6 sa xs.length (encFs xs)) (la : ∀ e ∈ xs, Lies n w e.v e.l e.f) (hr : Rises (xs.map Fl.pair)) :
    Calls Tryz.prog 102 #[sa, .string name, .func (.func 103) #[] #[]] w fun e w' => e = .returned (.tuple #[.int .i64 ((aheadN name (xs.map Fl.pair) : Nat) : Int), .bool p]) ∧ Go.RowKit.Below w.heap.size w w' := by
  have hl := aheadN_le name (xs.map Fl.pair)
  rw [List.length_map] at hl
  have ht := aheadN_there name _ hr
  rw [hp, List.length_map] at ht
  have hm : ∀ (j : Nat) (x : Fl), xs[j]? = some x → (xs.map Fl.pair)[j]? = some x.pair := fun j x hx => by rw [List.getElem?_map, hx]; rfl
  exact Search_any n xs sa name w ha la _ p hl (fun j x hj hx => aheadN_lt name _ j _ hj (hm j x hx)) (fun j x hj hx => aheadN_ge name _ hr j _ hj (hm j x hx)) (fun x hx => ht.1 _ (hm _ x hx)) ht.2
end Go.Proofs.YtnkoblhdbccbeaaGreatDoor

namespace Go.Proofs.YtnkoblhdbccbeaaGreatDoor

/-- a value with nothing beside its kind. -/
def canV : Nat → V → V
  | 0, _ => nulV
  | n + 1, v =>
    if v.kind = 1 then boolV v.num
    else if v.kind = 2 then intV v.num
    else if v.kind = 3 then textV v.text
    else if v.kind = 4 then listV (v.list.map (canV n))
    else if v.kind = 5 then objV (v.fields.map fun p => (p.1, canV n p.2))
    else nulV

theorem word_mend (i : Nat) : mend (wordAt i).data.toList = (wordAt i).data.toList := by
  unfold wordAt
  split <;> kernel_rfl
theorem name_mend (i : Nat) : mend (nameAt i).data.toList = (nameAt i).data.toList := by
  unfold nameAt
  split <;> kernel_rfl
theorem word_len (i : Nat) : (quoteL (wordAt i).data.toList).length ≤ 18 := by
  unfold wordAt
  split <;> decide
theorem name_len (i : Nat) : (quoteL (nameAt i).data.toList).length = 3 := by
  unfold nameAt
  split <;> rfl

theorem Nice.parts {n : Nat} {v : V} (h : Nice n v) : 0 ≤ v.kind ∧ v.kind ≤ 5 ∧ I64 v.num ∧ Wd v.kind v.num v.text := by
  cases n with
  | zero => exact ⟨h.1, h.2.1, h.2.2.1, h.2.2.2.1⟩
  | succ n => exact ⟨h.1, h.2.1, h.2.2.1, h.2.2.2.1⟩
theorem Nice.inner {n : Nat} {v : V} (h : Nice n v) : v.list.length ≤ 3 ∧ v.fields.length ≤ 4 ∧ Rises v.fields ∧ (∀ x ∈ v.list, ∃ m, n = m + 1 ∧ Nice m x) ∧ (∀ p ∈ v.fields, (∃ i, p.1 = nameAt i) ∧ ∃ m, n = m + 1 ∧ Nice m p.2) := by
  cases n with
  | zero =>
    obtain ⟨_, _, _, _, h5, h6⟩ := h
    rw [h5, h6]
    exact ⟨by simp, by simp, trivial, fun x hx => (by cases hx), fun x hx => (by cases hx)⟩
  | succ n =>
    obtain ⟨_, _, _, _, h5, h6, h7, h8, h9⟩ := h
    exact ⟨h5, h6, h7, fun x hx => ⟨n, rfl, h8 x hx⟩, fun p hp => ⟨(h9 p hp).1, n, rfl, (h9 p hp).2⟩⟩

/-- what a value's text begins with. -/
theorem print_hd (n : Nat) (v : V) (h : Nice n v) : printV (n + 1) v ≠ [] ∧ hd (printV (n + 1) v) ≠ 93 ∧ hd (printV (n + 1) v) ≠ 125 ∧ hd (printV (n + 1) v) ≠ 9 ∧ hd (printV (n + 1) v) ≠ 10 ∧ hd (printV (n + 1) v) ≠ 13 ∧ hd (printV (n + 1) v) ≠ 32 := by
  obtain ⟨k0, k1, _, _⟩ := h.parts
  rw [printV_step]
  obtain e | e | e | e | e | e : v.kind = 0 ∨ v.kind = 1 ∨ v.kind = 2 ∨ v.kind = 3 ∨ v.kind = 4 ∨ v.kind = 5 := by omega
  · simp [stepL, e, hd]
  · by_cases hn : v.num = 1 <;> simp [stepL, e, hn, hd]
  · have h1 := itoa_hd v.num
    have h2 := itoa_ne v.num
    simp only [stepL, e]
    simp only [show ¬ (2 : Int) = 0 by decide, show ¬ (2 : Int) = 1 by decide, if_false, if_true]
    exact ⟨h2, by omega, by omega, by omega, by omega, by omega, by omega⟩
  · simp [stepL, e, hd, quoteL]
  · simp [stepL, e, hd]
  · simp [stepL, e, hd]

theorem prefix_app (a R : List UInt8) : Lib.hasPrefix (a ++ R) a = true := by
  unfold Lib.hasPrefix
  rw [List.isPrefixOf_iff_prefix]
  exact List.prefix_append a R

theorem ins_rises {nm : ByteArray × V → ByteArray} {cn : ByteArray × V → V} (hnm : ∀ p, nm p = p.1) : ∀ (xs : List (ByteArray × V)) (acc : List (ByteArray × V)), Rises xs → (∀ a ∈ acc, ∀ x ∈ xs, cmpT a.1 x.1 < 0) → insAll nm cn acc xs = acc ++ xs.map fun p => (p.1, cn p)
  | [], acc, _, _ => by simp [insAll]
  | x :: xs, acc, hr, ha => by
    have hlast : ∀ (l : List (ByteArray × V)), (∀ a ∈ l, cmpT a.1 x.1 < 0) → setF x.1 (cn x) l = l ++ [(x.1, cn x)] := by
      intro l
      induction l with
      | nil => intro _; rfl
      | cons a l ih =>
        intro hl
        have h0 := hl a (by simp)
        simp only [setF, if_neg (show ¬ cmpT a.1 x.1 = 0 by omega), if_neg (show ¬ 0 < cmpT a.1 x.1 by omega)]
        rw [ih fun b hb => hl b (by simp [hb])]
        rfl
    have h1 : insAll nm cn acc (x :: xs) = insAll nm cn (setF (nm x) (cn x) acc) xs := rfl
    rw [h1, hnm, hlast acc fun a h => ha a h x (by simp), ins_rises hnm xs _ hr.tail ?_]
    · simp
    · intro a hm y hy
      rcases List.mem_append.1 hm with hm | hm
      · exact ha a hm y (by simp [hy])
      · rw [List.mem_singleton.1 hm]
        exact hr.all y hy

/-- what is printed is read as it was. -/
theorem value_print : ∀ (n : Nat) (v : V), Nice n v → ∀ m, n < m → Reads (valueP m) (printV (n + 1) v) (canV (n + 1) v) := by
  intro n
  induction n using Nat.strongRecOn with
  | _ n ih =>
    intro v hv m hm R hR
    obtain ⟨m, rfl⟩ : ∃ k, m = k + 1 := ⟨m - 1, by omega⟩
    obtain ⟨k0, k1, ⟨i0, i1⟩, ⟨⟨w, hw⟩, hb⟩⟩ := hv.parts
    obtain ⟨_, _, hri, hli, hfi⟩ := hv.inner
    have hph := print_hd n v hv
    have hhd : hd (printV (n + 1) v ++ R) = hd (printV (n + 1) v) := hd_append hph.1
    have hsk : skip (printV (n + 1) v ++ R) = printV (n + 1) v ++ R := skip_hd (by rw [hhd]; exact ⟨hph.2.2.2.1, hph.2.2.2.2.1, hph.2.2.2.2.2.1, hph.2.2.2.2.2.2⟩)
    have hval : valueP (m + 1) (printV (n + 1) v ++ R) = (if hd (printV (n + 1) v) = 45 ∨ (48 ≤ hd (printV (n + 1) v) ∧ hd (printV (n + 1) v) ≤ 57) then numP (printV (n + 1) v ++ R)
      else if hd (printV (n + 1) v) = 34 then textP (printV (n + 1) v ++ R) else if hd (printV (n + 1) v) = 91 then listP (valueP m) ((printV (n + 1) v ++ R).drop 1)
      else if hd (printV (n + 1) v) = 123 then objP (valueP m) ((printV (n + 1) v ++ R).drop 1) else wordP (printV (n + 1) v ++ R)) := by
      simp only [valueP, hsk, hhd]
    rw [hval]
    clear hval hsk hhd
    obtain e | e | e | e | e | e : v.kind = 0 ∨ v.kind = 1 ∨ v.kind = 2 ∨ v.kind = 3 ∨ v.kind = 4 ∨ v.kind = 5 := by omega
    · have hp : printV (n + 1) v = wNull := by rw [printV_step]; simp [stepL, e]
      have hc : canV (n + 1) v = nulV := by simp [canV, e]
      rw [hp, hc]
      rw [if_neg (by decide), if_neg (by decide), if_neg (by decide), if_neg (by decide)]
      unfold wordP
      rw [if_pos (prefix_app wNull R)]
      rfl
    · have hc : canV (n + 1) v = boolV v.num := by simp [canV, e]
      rcases hb e with h0 | h1
      · have hp : printV (n + 1) v = wFalse := by rw [printV_step]; simp [stepL, e, h0]
        rw [hp, hc, h0]
        rw [if_neg (by decide), if_neg (by decide), if_neg (by decide), if_neg (by decide)]
        unfold wordP
        rw [if_neg (show ¬ Lib.hasPrefix (wFalse ++ R) wNull = true by simp [Lib.hasPrefix, List.isPrefixOf]), if_pos (prefix_app wFalse R)]
        rfl
      · have hp : printV (n + 1) v = wTrue := by rw [printV_step]; simp [stepL, e, h1]
        rw [hp, hc, h1]
        rw [if_neg (by decide), if_neg (by decide), if_neg (by decide), if_neg (by decide)]
        unfold wordP
        rw [if_neg (show ¬ Lib.hasPrefix (wTrue ++ R) wNull = true by simp [Lib.hasPrefix, List.isPrefixOf]), if_neg (show ¬ Lib.hasPrefix (wTrue ++ R) wFalse = true by simp [Lib.hasPrefix, List.isPrefixOf]), if_pos (prefix_app wTrue R)]
        rfl
    · have hp : printV (n + 1) v = Lib.itoa v.num := by rw [printV_step]; simp [stepL, e]
      have hc : canV (n + 1) v = intV v.num := by simp [canV, e]
      rw [hp, hc, if_pos (itoa_hd v.num)]
      exact num_itoa v.num i0 i1 R hR.1 hR.2
    · have hp : printV (n + 1) v = quoteL v.text.data.toList := by rw [printV_step]; simp [stepL, e]
      have hc : canV (n + 1) v = textV v.text := by simp [canV, e]
      rw [hp, hc, if_neg (by rw [quote_hd]; decide), if_pos (quote_hd _)]
      unfold textP
      rw [readL_quote, show mend v.text.data.toList = v.text.data.toList by rw [hw]; exact word_mend w]
      simp only [drop_app]
    · have hp : printV (n + 1) v = 91 :: (sepBy (v.list.map (printV n)) ++ [93]) := by rw [printV_step]; simp [stepL, e]
      have hc : canV (n + 1) v = listV (v.list.map (canV n)) := by simp [canV, e]
      rw [hp, hc, show hd (91 :: (sepBy (v.list.map (printV n)) ++ [93])) = 91 from rfl, if_neg (by decide), if_neg (by decide), if_pos rfl]
      have hdr : (91 :: (sepBy (v.list.map (printV n)) ++ [93]) ++ R).drop 1 = sepBy (v.list.map (printV n)) ++ 93 :: R := by simp
      rw [hdr, ← join_sep]
      clear hdr hp hc hph
      have hrd : ∀ x ∈ v.list, Reads (valueP m) (printV n x) (canV n x) := fun x hx => by
        obtain ⟨k, rfl, hk⟩ := hli x hx
        exact ih k (by omega) x hk m (by omega)
      cases hlist : v.list with
      | nil =>
        show listP (valueP m) (93 :: R) = .ok (listV [], R)
        unfold listP
        rw [skip_hd (l := 93 :: R) (show (93 : Nat) ≠ 9 ∧ (93 : Nat) ≠ 10 ∧ (93 : Nat) ≠ 13 ∧ (93 : Nat) ≠ 32 by decide), if_pos (show hd (93 :: R) = 93 from rfl)]
        rfl
      | cons x xs =>
        rw [hlist] at hrd hli
        have hj := elems_join (g := valueP m) [] (fun l => rfl) (printV n) (canV n) R (x :: xs) ((joinB [] ((x :: xs).map (printV n)) ++ 93 :: R).length + 1) [] (by simp) (by
          have := join_len [] ((x :: xs).map (printV n))
          rw [List.length_map] at this
          simp only [List.length_append, List.length_cons] at this ⊢
          omega) hrd
        have hx := hli x (by simp)
        obtain ⟨k, rfl, hk⟩ := hx
        have hxh := print_hd k x hk
        obtain ⟨T, hT⟩ : ∃ T, joinB [] ((x :: xs).map (printV (k + 1))) ++ 93 :: R = printV (k + 1) x ++ T := by
          cases xs with
          | nil => exact ⟨93 :: R, rfl⟩
          | cons y r => exact ⟨44 :: (joinB [] ((y :: r).map (printV (k + 1))) ++ 93 :: R), by simp [joinB]⟩
        have hsk : skip (joinB [] ((x :: xs).map (printV (k + 1))) ++ 93 :: R) = joinB [] ((x :: xs).map (printV (k + 1))) ++ 93 :: R := by
          rw [hT]
          exact skip_hd (by rw [hd_append hxh.1]; exact ⟨hxh.2.2.2.1, hxh.2.2.2.2.1, hxh.2.2.2.2.2.1, hxh.2.2.2.2.2.2⟩)
        unfold listP
        rw [hsk, if_neg (by rw [hT, hd_append hxh.1]; exact hxh.2.1), hj]
        rfl
    · have hp : printV (n + 1) v = 123 :: (sepBy (v.fields.map (fieldL n)) ++ [125]) := by rw [printV_step]; simp [stepL, e]
      have hc : canV (n + 1) v = objV (v.fields.map fun p => (p.1, canV n p.2)) := by simp [canV, e]
      rw [hp, hc, show hd (123 :: (sepBy (v.fields.map (fieldL n)) ++ [125])) = 123 from rfl, if_neg (by decide), if_neg (by decide), if_neg (by decide), if_pos rfl]
      have hdr : (123 :: (sepBy (v.fields.map (fieldL n)) ++ [125]) ++ R).drop 1 = sepBy (v.fields.map (fieldL n)) ++ 125 :: R := by simp
      rw [hdr, ← join_sep]
      clear hdr hp hc hph
      have hrd : ∀ x ∈ v.fields, Reads (valueP m) (printV n x.2) (canV n x.2) ∧ mend x.1.data.toList = x.1.data.toList := fun x hx => by
        obtain ⟨⟨i, hi⟩, k, rfl, hk⟩ := hfi x hx
        exact ⟨ih k (by omega) x.2 hk m (by omega), by rw [hi]; exact name_mend i⟩
      cases hlist : v.fields with
      | nil =>
        show objP (valueP m) (125 :: R) = .ok (objV [], R)
        unfold objP
        rw [skip_hd (l := 125 :: R) (show (125 : Nat) ≠ 9 ∧ (125 : Nat) ≠ 10 ∧ (125 : Nat) ≠ 13 ∧ (125 : Nat) ≠ 32 by decide), if_pos (show hd (125 :: R) = 125 from rfl)]
        rfl
      | cons x xs =>
        rw [hlist] at hrd hri
        have hfe : ((x :: xs).map (fieldL n)) = (x :: xs).map fun p => fieldB [] [] p.1 (printV n p.2) := by
          apply List.map_congr_left
          intro p _
          simp [fieldL, fieldB]
        have hpw : (x :: xs).Pairwise fun a b => ¬ cmpT b.1 a.1 = 0 := by
          have hall : ∀ (l : List (ByteArray × V)), Rises l → l.Pairwise fun a b => ¬ cmpT b.1 a.1 = 0 := by
            intro l
            induction l with
            | nil => intro _; exact .nil
            | cons a l ihl =>
              intro hr
              refine List.pairwise_cons.2 ⟨fun b hb => ?_, ihl hr.tail⟩
              have h1 := hr.all b hb
              have h2 := good_cmpT.anti a.1 b.1
              omega
          exact hall _ hri
        rw [hfe]
        have hj := membs_join (g := valueP m) [] [] [] (fun _ h => by cases h) (fun _ h => by cases h) (fun l => rfl) (fun p : ByteArray × V => p.1) (fun p => printV n p.2) (fun p => canV n p.2) R (x :: xs) ((joinB [] ((x :: xs).map fun p => fieldB [] [] p.1 (printV n p.2)) ++ 125 :: R).length + 1) [] [] (fun _ h => by cases h) (by simp) (by
          have := join_len [] ((x :: xs).map fun p => fieldB [] [] p.1 (printV n p.2))
          rw [List.length_map] at this
          simp only [List.length_append, List.length_cons] at this ⊢
          omega) hrd (fun _ _ => rfl) hpw
        obtain ⟨T, hT⟩ : ∃ T, joinB [] ((x :: xs).map fun p => fieldB [] [] p.1 (printV n p.2)) ++ 125 :: R = quoteL x.1.data.toList ++ T := by
          cases xs with
          | nil => exact ⟨58 :: (printV n x.2 ++ 125 :: R), by simp [joinB, fieldB]⟩
          | cons y r => exact ⟨58 :: (printV n x.2 ++ 44 :: (joinB [] ((y :: r).map fun p => fieldB [] [] p.1 (printV n p.2)) ++ 125 :: R)), by simp [joinB, fieldB]⟩
        have hsk : skip (joinB [] ((x :: xs).map fun p => fieldB [] [] p.1 (printV n p.2)) ++ 125 :: R) = joinB [] ((x :: xs).map fun p => fieldB [] [] p.1 (printV n p.2)) ++ 125 :: R := by
          rw [hT]
          exact skip_hd (by rw [hd_append (quote_ne _), quote_hd]; decide)
        unfold objP
        rw [hsk, if_neg (by rw [hT, hd_append (quote_ne _), quote_hd]; decide)]
        rw [show ([] : List UInt8) ++ (joinB [] ((x :: xs).map fun p => fieldB [] [] p.1 (printV n p.2)) ++ 125 :: R) = joinB [] ((x :: xs).map fun p => fieldB [] [] p.1 (printV n p.2)) ++ 125 :: R from rfl] at hj
        rw [hj]
        show Except.ok (objV (insAll (fun p : ByteArray × V => p.1) (fun p => canV n p.2) [] (x :: xs)), R) = _
        rw [ins_rises (fun _ => rfl) (x :: xs) [] hri (fun a ha => by cases ha)]
        rfl
end Go.Proofs.YtnkoblhdbccbeaaGreatDoor

namespace Go.Proofs
open Go.Shelf
def Tryz.laysValid_ren : Go.Shelf.Ren := ⟨fun | 196 => 71 | 259 => 96 | n => n, fun | 0 => 0 | 3 => 3 | 4 => 4 | 5 => 5 | 9 => 9 | 12 => 12 | 46 => 160 | 53 => 136 | 119 => 156 | 138 => 158 | 139 => 159 | n => n, fun | 3 => 3 | 4 => 4 | n => n⟩
theorem Tryz.laysValid : Go.Proofs.Lays.n196 Tryz.prog Tryz.laysValid_ren := {
  mixed := by kernel_rfl
  f196 := Tryz.func71.trans (congrArg some (by kernel_rfl))
  f259 := Tryz.func96.trans (congrArg some (by kernel_rfl))
  t0 := Tryz.underlying0
  a0 := Tryz.isAgg0
  z0 := Tryz.sizeOf0
  v0 := Tryz.zeroValue0
  t3 := Tryz.underlying3
  a3 := Tryz.isAgg3
  z3 := Tryz.sizeOf3
  v3 := Tryz.zeroValue3
  t4 := Tryz.underlying4
  a4 := Tryz.isAgg4
  z4 := Tryz.sizeOf4
  v4 := Tryz.zeroValue4
  t5 := Tryz.underlying5
  a5 := Tryz.isAgg5
  z5 := Tryz.sizeOf5
  v5 := Tryz.zeroValue5
  t9 := Tryz.underlying9
  a9 := Tryz.isAgg9
  z9 := Tryz.sizeOf9
  v9 := Tryz.zeroValue9
  t12 := Tryz.underlying12
  a12 := Tryz.isAgg12
  z12 := Tryz.sizeOf12
  v12 := Tryz.zeroValue12
  t46 := Tryz.underlying160
  a46 := Tryz.isAgg160
  z46 := Tryz.sizeOf160
  v46 := Tryz.zeroValue160
  t53 := Tryz.underlying136
  a53 := Tryz.isAgg136
  z53 := Tryz.sizeOf136
  v53 := Tryz.zeroValue136
  t119 := Tryz.underlying156
  a119 := Tryz.isAgg156
  z119 := Tryz.sizeOf156
  t138 := Tryz.underlying158
  a138 := Tryz.isAgg158
  z138 := Tryz.sizeOf158
  v138 := Tryz.zeroValue158
  t139 := Tryz.underlying159
  a139 := Tryz.isAgg159
  z139 := Tryz.sizeOf159
  v139 := Tryz.zeroValue159
  g3 := by kernel_rfl
  g4 := by kernel_rfl }
end Go.Proofs
namespace Go.Proofs.YtnkoblhdbccbeaaGreatDoor
open Go.RowKit

def U8 (w : World) : Prop := Lib.Utf8Tabs 3 4 w

theorem ValidString_any (s : ByteArray) (w : World) (hs : s.size ≤ 9223372036854775807) (hT : U8 w) :
    Calls Tryz.prog 71 #[.string s] w fun e w' => e = .returned (.bool (Lib.validD s.data.toList)) ∧ Below w.heap.size w w' := Any.utf8_ValidString Tryz.laysValid s w hs hT
theorem textValid_any (s : ByteArray) (w : World) (hs : s.size ≤ 9223372036854775807) (hT : U8 w) :
    Calls Tryz.prog 37 #[.string s] w fun e w' => e = .returned (.bool (Lib.validD s.data.toList)) ∧ Below w.heap.size w w' := by
  have h := ValidString_any s w hs hT
  generalize Lib.validD s.data.toList = v at *
  clear hs
  go_enter Tryz.func37, Tryz.ntmps37
  go_wp2_with fail
  refine h.mono ?_
  rintro e w1 ⟨rfl, hb⟩
  go_wp2
  go_ret
  exact ⟨rfl, hb⟩

end Go.Proofs.YtnkoblhdbccbeaaGreatDoor

namespace Go.Proofs.YtnkoblhdbccbeaaGreatDoor
open Go.RowKit

def maxI : Int → List Int → Int
  | m, [] => m
  | m, x :: xs => maxI (max m x) xs
/-- how deep a value is, so deep. -/
def depthV : Nat → V → Int
  | 0, _ => 1
  | n + 1, v => 1 + (if v.kind = 4 then maxI 0 (v.list.map (depthV n)) else if v.kind = 5 then maxI 0 (v.fields.map fun p => depthV n p.2) else 0)
theorem maxI_bound (b : Int) : ∀ (l : List Int) (m : Int), m ≤ b → (∀ x ∈ l, x ≤ b) → m ≤ maxI m l ∧ maxI m l ≤ b
  | [], m, h, _ => ⟨Int.le_refl _, h⟩
  | x :: xs, m, h, hx => by
    have hx0 := hx x (by simp)
    have := maxI_bound b xs (max m x) (by omega) fun y hy => hx y (by simp [hy])
    simp only [maxI]
    exact ⟨by omega, this.2⟩
theorem depthV_bound : ∀ (n : Nat) (v : V), 1 ≤ depthV n v ∧ depthV n v ≤ n + 1
  | 0, _ => by simp [depthV]
  | n + 1, v => by
    simp only [depthV]
    split
    · have := maxI_bound ((n : Int) + 1) (v.list.map (depthV n)) 0 (by omega) (fun x hx => by obtain ⟨y, _, rfl⟩ := List.mem_map.1 hx; exact (depthV_bound n y).2)
      omega
    · split
      · have := maxI_bound ((n : Int) + 1) (v.fields.map fun p => depthV n p.2) 0 (by omega) (fun x hx => by obtain ⟨y, _, rfl⟩ := List.mem_map.1 hx; exact (depthV_bound n y.2).2)
        omega
      · omega
theorem maxI_snoc : ∀ (l : List Int) (m x : Int), maxI m (l ++ [x]) = max (maxI m l) x
  | [], _, _ => rfl
  | y :: l, m, x => by simp only [List.cons_append, maxI]; exact maxI_snoc l _ x

set_option maxHeartbeats 2000000 in
theorem Depth_step (n : Nat) (hn : n ≤ 1000) (v : V) (l f : Value) (w : World) (xs : List El) (fs : List Fl) (ea : xs.map El.v = v.list) (ef : fs.map Fl.pair = v.fields)
    (hxs : RowAt (fun _ => True) w 31 5 l xs.length (encEs xs)) (hfs : RowAt (fun _ => True) w 52 6 f fs.length (encFs fs)) (lx : ∀ e ∈ xs, Lies n w e.v e.l e.f) (lf : ∀ e ∈ fs, Lies n w e.v e.l e.f)
    (hg : ∀ x ∈ xs, ∀ W, Below w.heap.size w W → Calls Tryz.prog 21 #[.agg #[.int .i64 x.v.kind, .int .i64 x.v.num, .string x.v.text, x.l, x.f]] W fun e w' => e = .returned (.int .i64 (depthV n x.v)) ∧ Below W.heap.size W w')
    (hf : ∀ x ∈ fs, ∀ W, Below w.heap.size w W → Calls Tryz.prog 21 #[.agg #[.int .i64 x.v.kind, .int .i64 x.v.num, .string x.v.text, x.l, x.f]] W fun e w' => e = .returned (.int .i64 (depthV n x.v)) ∧ Below W.heap.size W w') :
    Calls Tryz.prog 21 #[.agg #[.int .i64 v.kind, .int .i64 v.num, .string v.text, l, f]] w fun e w' => e = .returned (.int .i64 (depthV (n + 1) v)) ∧ Below w.heap.size w w' := by
  have hB : ∀ (o1 : Obj), Below w.heap.size w (w.alloc o1) := fun o1 => (Below.refl _ _).alloc (Nat.le_refl _) _
  obtain ⟨a1, c1, rfl⟩ := hxs.slice
  obtain ⟨a3, c3, rfl⟩ := hfs.slice
  have nx := hxs.2.1
  have nf := hfs.2.1
  simp only [depthV]
  by_cases h4 : v.kind = 4
  · rw [if_pos h4, h4, ← ea, List.map_map]
    clear hf lf hfs ef ea h4
    go_enter Tryz.func21, Tryz.ntmps21
    go_wp2
    go_loopg [3, 5, 15] xs.length (fun gg m _ i wr => ∃ k : Nat, k ≤ xs.length ∧ xs.length - k ≤ gg ∧ i = .int .i64 k ∧ m = .int .i64 (maxI 0 ((xs.take k).map (depthV n ∘ El.v))) ∧ Aside (Below w.heap.size w wr))
    case atStart => exact ⟨0, Nat.zero_le _, by omega, rfl, rfl, hB _⟩
    case round =>
      obtain ⟨k, hk, hgg, rfl, rfl, BW⟩ := hrel
      have hmb := maxI_bound ((n : Int) + 1) ((xs.take k).map (depthV n ∘ El.v)) 0 (by omega) (fun x hx => by obtain ⟨y, _, rfl⟩ := List.mem_map.1 hx; exact (depthV_bound n y.v).2)
      by_cases hlt : k < xs.length
      · obtain ⟨b, c', e1, hbl, _, hc1, hc2, _⟩ := hxs.cells (by omega)
        simp only [Value.slice.injEq, true_and] at e1
        obtain ⟨rfl, rfl⟩ := e1
        obtain ⟨⟨xv, xl, xf⟩, hx⟩ : ∃ x, xs[k]? = some x := ⟨_, List.getElem?_eq_getElem hlt⟩
        have hm : ∀ b, True → b < w.heap.size → True ∧ wr.heap[b]? = w.heap[b]? := fun b _ h => ⟨trivial, BW.out.block b h⟩
        obtain ⟨a0, a1, a2, a3, a4⟩ := (hxs.move hm).el hx
        have hlx : Lies n wr xv xl xf := (lx _ (List.mem_of_getElem? hx)).below BW.out
        have HX : Aside ((xs.take (k + 1)).map (depthV n ∘ El.v) = (xs.take k).map (depthV n ∘ El.v) ++ [depthV n xv]) := by show _ = _; rw [List.take_add_one, hx]; simp
        simp only at a0 a1 a2 a3 a4
        obtain ⟨al, cl, af, cf, rfl, rfl⟩ := hlx.slices
        have hcall := fun W (hW : Below wr.heap.size wr W) => hg _ (List.mem_of_getElem? hx) W (BW.out.trans (hW.mono BW.out.size))
        simp only at hcall
        have zk : (k : Int) < (xs.length : Int) := by omega
        clear hx hm hlx lx hg hxs hmb
        generalize (xs.take k).map (depthV n ∘ El.v) = ms at *
        generalize depthV n xv = dx at *
        go_wp2_with fail
        refine (hcall _ ((Below.refl _ _).alloc (Nat.le_refl _) _)).mono ?_
        rintro e w' ⟨rfl, hb'⟩
        go_wp2
        go_roundg (xs.length - (k + 1))
        case measure => omega
        case rel =>
          refine ⟨k + 1, by omega, by omega, by go_num, ?_, BW.out.trans ((((Below.refl _ _).alloc (Nat.le_refl _) _).trans (hb'.mono (by simp))).mono BW.out.size)⟩
          rw [HX.out, maxI_snoc]
      · have hz : ¬ (k : Int) < (xs.length : Int) := by omega
        have hk' : k = xs.length := by omega
        subst hk'
        rw [List.take_length] at hmb ⊢
        clear hg lx hxs
        obtain ⟨r, hr⟩ : ∃ r, maxI 0 (xs.map (depthV n ∘ El.v)) = r := ⟨_, rfl⟩
        rw [hr] at hmb ⊢
        have HR := (show Aside _ from hr)
        clear hr
        go_wp2
        go_ret
        refine ⟨?_, BW.out⟩
        rw [HR.out]
        rfl
  · rw [if_neg h4]
    by_cases h5 : v.kind = 5
    · rw [if_pos h5, h5, ← ef, List.map_map, show ((fun p : ByteArray × V => depthV n p.2) ∘ Fl.pair) = depthV n ∘ Fl.v from rfl]
      have e4 : ((5 : Int) == 4) = false := rfl
      clear hg lx hxs ef ea h4 h5 e4
      go_enter Tryz.func21, Tryz.ntmps21
      go_wp2
      go_loopg [3, 7, 29] fs.length (fun gg m _ i wr => ∃ k : Nat, k ≤ fs.length ∧ fs.length - k ≤ gg ∧ i = .int .i64 k ∧ m = .int .i64 (maxI 0 ((fs.take k).map (depthV n ∘ Fl.v))) ∧ Aside (Below w.heap.size w wr))
      case atStart => exact ⟨0, Nat.zero_le _, by omega, rfl, rfl, hB _⟩
      case round =>
        obtain ⟨k, hk, hgg, rfl, rfl, BW⟩ := hrel
        have hmb := maxI_bound ((n : Int) + 1) ((fs.take k).map (depthV n ∘ Fl.v)) 0 (by omega) (fun x hx => by obtain ⟨y, _, rfl⟩ := List.mem_map.1 hx; exact (depthV_bound n y.v).2)
        by_cases hlt : k < fs.length
        · obtain ⟨b, c', e1, hbl, _, hc1, hc2, _⟩ := hfs.cells (by omega)
          simp only [Value.slice.injEq, true_and] at e1
          obtain ⟨rfl, rfl⟩ := e1
          obtain ⟨⟨xn, xv, xl, xf⟩, hx⟩ : ∃ x, fs[k]? = some x := ⟨_, List.getElem?_eq_getElem hlt⟩
          have hm : ∀ b, True → b < w.heap.size → True ∧ wr.heap[b]? = w.heap[b]? := fun b _ h => ⟨trivial, BW.out.block b h⟩
          obtain ⟨a0, a1, a2, a3, a4, a5⟩ := (hfs.move hm).fl hx
          have hlx : Lies n wr xv xl xf := (lf _ (List.mem_of_getElem? hx)).below BW.out
          have HX : Aside ((fs.take (k + 1)).map (depthV n ∘ Fl.v) = (fs.take k).map (depthV n ∘ Fl.v) ++ [depthV n xv]) := by show _ = _; rw [List.take_add_one, hx]; simp
          simp only at a0 a1 a2 a3 a4 a5
          obtain ⟨al, cl, af, cf, rfl, rfl⟩ := hlx.slices
          have hcall := fun W (hW : Below wr.heap.size wr W) => hf _ (List.mem_of_getElem? hx) W (BW.out.trans (hW.mono BW.out.size))
          simp only at hcall
          have zk : (k : Int) < (fs.length : Int) := by omega
          clear hx hm hlx lf hf hfs hmb
          generalize (fs.take k).map (depthV n ∘ Fl.v) = ms at *
          generalize depthV n xv = dx at *
          go_wp2_with fail
          refine (hcall _ ((Below.refl _ _).alloc (Nat.le_refl _) _)).mono ?_
          rintro e w' ⟨rfl, hb'⟩
          go_wp2
          go_roundg (fs.length - (k + 1))
          case measure => omega
          case rel =>
            refine ⟨k + 1, by omega, by omega, by go_num, ?_, BW.out.trans ((((Below.refl _ _).alloc (Nat.le_refl _) _).trans (hb'.mono (by simp))).mono BW.out.size)⟩
            rw [HX.out, maxI_snoc]
        · have hz : ¬ (k : Int) < (fs.length : Int) := by omega
          have hk' : k = fs.length := by omega
          subst hk'
          rw [List.take_length] at hmb ⊢
          clear hf lf hfs
          obtain ⟨r, hr⟩ : ∃ r, maxI 0 (fs.map (depthV n ∘ Fl.v)) = r := ⟨_, rfl⟩
          rw [hr] at hmb ⊢
          have HR := (show Aside _ from hr)
          clear hr
          go_wp2
          go_ret
          refine ⟨?_, BW.out⟩
          rw [HR.out]
          rfl
    · rw [if_neg h5]
      have e4 : (v.kind == 4) = false := by simpa using h4
      have e5 : (v.kind == 5) = false := by simpa using h5
      clear hg hf lx lf hxs hfs
      go_enter Tryz.func21, Tryz.ntmps21
      go_wp2
      go_ret
      exact ⟨rfl, hB _⟩

theorem Depth_any : ∀ (n : Nat), n ≤ 1000 → ∀ (v : V) (l f : Value) (w : World), Lies n w v l f →
    Calls Tryz.prog 21 #[.agg #[.int .i64 v.kind, .int .i64 v.num, .string v.text, l, f]] w fun e w' => e = .returned (.int .i64 (depthV (n + 1) v)) ∧ Below w.heap.size w w'
  | 0, _, v, l, f, w, ⟨h1, h2, h3, h4⟩ => by
    subst h3 h4
    exact Depth_step 0 (by omega) v _ _ w [] [] h1.symm h2.symm RowAt.nil RowAt.nil (fun e he => (by cases he)) (fun e he => (by cases he)) (fun x hx => (by cases hx)) (fun x hx => (by cases hx))
  | n + 1, hn, v, l, f, w, ⟨⟨xs, e1, e2, e3⟩, ⟨fs, f1, f2, f3⟩⟩ =>
    Depth_step (n + 1) hn v l f w xs fs e1 f1 e2 f2 (fun e he => Rep.up (e3 e he)) (fun e he => Rep.up (f3 e he))
      (fun x hx W hW => Depth_any n (by omega) x.v x.l x.f W (Lies.below hW (e3 x hx)))
      (fun x hx W hW => Depth_any n (by omega) x.v x.l x.f W (Lies.below hW (f3 x hx)))
end Go.Proofs.YtnkoblhdbccbeaaGreatDoor
