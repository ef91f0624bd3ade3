/-
  Fields whose names rise: where a name stands. No conditions beyond those stated.
  What is printed of a value that the law makes is read as it was: as plain data. No conditions beyond those stated.
  package text's Valid by its contract: a text is UTF-8. Condition: the tables of package utf8 lie as they are laid.
  package value's Depth by its contract. No conditions beyond those stated.
  package value's Valid at values with nothing beside their kind: true. Conditions: as stated.
  The program's reader of JSON: texts in quotes. Conditions: as stated (texts of at most 4096 bytes).
  The program's reader of JSON: numbers. Conditions: as stated (texts of at most 4096 bytes).
-/
import Derived.Test.YtdcaohnaiepllaaGreatDoorU10
import Derived.Test.YtdcaohnaiepllaaGreatDoorU4
import Derived.Shelf.Unicode.ValidAny
import Derived.Lib.OthersKept
import Derived.Test.YtdcaohnaiepllaaGreatDoorU8
import Derived.Test.YtdcaohnaiepllaaGreatDoorU2
import Derived.Deep.QuietTactic
import Derived.Test.YtdcaohnaiepllaaGreatDoorU9
namespace Go.Proofs.YtdcaohnaiepllaaGreatDoor

theorem aheadN_le (name : ByteArray) : ∀ ps : List (ByteArray × V), aheadN name ps ≤ ps.length
  | [] => Nat.le_refl _
  | f :: fs => by
    have := aheadN_le name fs
    simp only [aheadN, List.length_cons]
    split <;> omega
theorem aheadN_lt (name : ByteArray) : ∀ (ps : List (ByteArray × V)) (j : Nat) (x : ByteArray × V), j < aheadN name ps → ps[j]? = some x → cmpT x.1 name < 0
  | [], _, _, h, _ => by simp [aheadN] at h
  | f :: fs, 0, x, h, hx => by
    simp only [aheadN] at h
    split at h
    · rename_i h0
      simp at hx; subst hx; exact h0
    · omega
  | f :: fs, j + 1, x, h, hx => by
    simp only [aheadN] at h
    split at h
    · exact aheadN_lt name fs j x (by omega) (by simpa using hx)
    · omega
theorem Rises.all {f : ByteArray × V} : ∀ {fs : List (ByteArray × V)}, Rises (f :: fs) → ∀ x ∈ fs, cmpT f.1 x.1 < 0
  | [], _, x, hx => by cases hx
  | g :: fs, h, x, hx => by
    rcases List.mem_cons.1 hx with rfl | hx
    · exact h.1
    · exact good_cmpT.lt_left h.1 (by have := Rises.all (f := g) h.2 x hx; omega)
theorem aheadN_ge (name : ByteArray) : ∀ (ps : List (ByteArray × V)), Rises ps → ∀ (j : Nat) (x : ByteArray × V), aheadN name ps ≤ j → ps[j]? = some x → 0 ≤ cmpT x.1 name
  | [], _, _, _, _, hx => by simp at hx
  | f :: fs, hr, j, x, h, hx => by
    simp only [aheadN] at h
    split at h
    · cases j with
      | zero => omega
      | succ j => exact aheadN_ge name fs hr.tail j x (by omega) (by simpa using hx)
    · rename_i h0
      cases j with
      | zero => simp at hx; subst hx; omega
      | succ j =>
        have hm : x ∈ fs := List.mem_of_getElem? (by simpa using hx)
        have h1 := hr.all x hm
        have a1 := good_cmpT.anti f.1 name
        have a2 := good_cmpT.anti name x.1
        have h2 : cmpT name x.1 < 0 := good_cmpT.lt_right (by omega) h1
        omega
theorem aheadN_there (name : ByteArray) : ∀ (ps : List (ByteArray × V)), Rises ps → (∀ x, ps[aheadN name ps]? = some x → (cmpT x.1 name == 0) = (getF name ps).isSome) ∧ (aheadN name ps = ps.length → (getF name ps).isSome = false)
  | [], _ => ⟨fun x hx => by simp at hx, fun _ => rfl⟩
  | f :: fs, hr => by
    have ih := aheadN_there name fs hr.tail
    by_cases h0 : cmpT f.1 name < 0
    · simp only [aheadN, if_pos h0]
      rw [getF_cons, if_neg (by omega)]
      refine ⟨fun x hx => ih.1 x (by simpa using hx), fun h => ih.2 (by simpa using h)⟩
    · simp only [aheadN, if_neg h0]
      refine ⟨fun x hx => ?_, fun h => by simp at h⟩
      simp at hx
      subst hx
      by_cases h1 : cmpT f.1 name = 0
      · rw [getF_cons, if_pos h1, h1]; rfl
      · rw [get_above hr (by omega)]
        simp [h1]
theorem set_ahead (name : ByteArray) (x : V) : ∀ (ps : List (ByteArray × V)), getF name ps = none → setF name x ps = ps.take (aheadN name ps) ++ (name, x) :: ps.drop (aheadN name ps)
  | [], _ => rfl
  | f :: fs, h => by
    rw [getF_cons] at h
    by_cases h0 : cmpT f.1 name = 0
    · rw [if_pos h0] at h; cases h
    · rw [if_neg h0] at h
      by_cases h1 : cmpT f.1 name < 0
      · simp only [setF, if_neg h0, if_neg (show ¬ 0 < cmpT f.1 name by omega), aheadN, if_pos h1, List.take_succ_cons, List.drop_succ_cons, List.cons_append]
        rw [set_ahead name x fs h]
      · simp only [setF, if_neg h0, if_pos (show 0 < cmpT f.1 name by omega), aheadN, if_neg h1, List.take_zero, List.drop_zero, List.nil_append]

/-- the search, over plain fields. -/
theorem Search_is (n : Nat) (xs : List Fl) (sa : Value) (name : ByteArray) (w : World) {p : Bool} (hp : (getF name (xs.map Fl.pair)).isSome = p)
    (ha : RowAt (fun _ => True) w 49 6 sa xs.length (encFs xs)) (la : ∀ e ∈ xs, Lies n w e.v e.l e.f) (hr : Rises (xs.map Fl.pair)) :
    Calls Tryz.prog 88 #[sa, .string name, .func (.func 89) #[] #[]] w fun e w' => e = .returned (.tuple #[.int .i64 ((aheadN name (xs.map Fl.pair) : Nat) : Int), .bool p]) ∧ Go.RowKit.Below w.heap.size w w' := by
  have hl := aheadN_le name (xs.map Fl.pair)
  rw [List.length_map] at hl
  have ht := aheadN_there name _ hr
  rw [hp, List.length_map] at ht
  have hm : ∀ (j : Nat) (x : Fl), xs[j]? = some x → (xs.map Fl.pair)[j]? = some x.pair := fun j x hx => by rw [List.getElem?_map, hx]; rfl
  exact Search_any n xs sa name w ha la _ p hl (fun j x hj hx => aheadN_lt name _ j _ hj (hm j x hx)) (fun j x hj hx => aheadN_ge name _ hr j _ hj (hm j x hx)) (fun x hx => ht.1 _ (hm _ x hx)) ht.2
end Go.Proofs.YtdcaohnaiepllaaGreatDoor

namespace Go.Proofs.YtdcaohnaiepllaaGreatDoor

/-- a value with nothing beside its kind. -/
def canV : Nat → V → V
  | 0, _ => nulV
  | n + 1, v =>
    if v.kind = 1 then boolV v.num
    else if v.kind = 2 then intV v.num
    else if v.kind = 3 then textV v.text
    else if v.kind = 4 then listV (v.list.map (canV n))
    else if v.kind = 5 then objV (v.fields.map fun p => (p.1, canV n p.2))
    else nulV

theorem word_mend (i : Nat) : mend (wordAt i).data.toList = (wordAt i).data.toList := by
  unfold wordAt
  split <;> kernel_rfl
theorem name_mend (i : Nat) : mend (nameAt i).data.toList = (nameAt i).data.toList := by
  unfold nameAt
  split <;> kernel_rfl
theorem word_len (i : Nat) : (quoteL (wordAt i).data.toList).length ≤ 18 := by
  unfold wordAt
  split <;> decide
theorem name_len (i : Nat) : (quoteL (nameAt i).data.toList).length = 3 := by
  unfold nameAt
  split <;> rfl

theorem Nice.parts {n : Nat} {v : V} (h : Nice n v) : 0 ≤ v.kind ∧ v.kind ≤ 5 ∧ I64 v.num ∧ Wd v.kind v.num v.text := by
  cases n with
  | zero => exact ⟨h.1, h.2.1, h.2.2.1, h.2.2.2.1⟩
  | succ n => exact ⟨h.1, h.2.1, h.2.2.1, h.2.2.2.1⟩
theorem Nice.inner {n : Nat} {v : V} (h : Nice n v) : v.list.length ≤ 3 ∧ v.fields.length ≤ 4 ∧ Rises v.fields ∧ (∀ x ∈ v.list, ∃ m, n = m + 1 ∧ Nice m x) ∧ (∀ p ∈ v.fields, (∃ i, p.1 = nameAt i) ∧ ∃ m, n = m + 1 ∧ Nice m p.2) := by
  cases n with
  | zero =>
    obtain ⟨_, _, _, _, h5, h6⟩ := h
    rw [h5, h6]
    exact ⟨by simp, by simp, trivial, fun x hx => (by cases hx), fun x hx => (by cases hx)⟩
  | succ n =>
    obtain ⟨_, _, _, _, h5, h6, h7, h8, h9⟩ := h
    exact ⟨h5, h6, h7, fun x hx => ⟨n, rfl, h8 x hx⟩, fun p hp => ⟨(h9 p hp).1, n, rfl, (h9 p hp).2⟩⟩

/-- what a value's text begins with. -/
theorem print_hd (n : Nat) (v : V) (h : Nice n v) : printV (n + 1) v ≠ [] ∧ hd (printV (n + 1) v) ≠ 93 ∧ hd (printV (n + 1) v) ≠ 125 ∧ hd (printV (n + 1) v) ≠ 9 ∧ hd (printV (n + 1) v) ≠ 10 ∧ hd (printV (n + 1) v) ≠ 13 ∧ hd (printV (n + 1) v) ≠ 32 := by
  obtain ⟨k0, k1, _, _⟩ := h.parts
  rw [printV_step]
  obtain e | e | e | e | e | e : v.kind = 0 ∨ v.kind = 1 ∨ v.kind = 2 ∨ v.kind = 3 ∨ v.kind = 4 ∨ v.kind = 5 := by omega
  · simp [stepL, e, hd]
  · by_cases hn : v.num = 1 <;> simp [stepL, e, hn, hd]
  · have h1 := itoa_hd v.num
    have h2 := itoa_ne v.num
    simp only [stepL, e]
    simp only [show ¬ (2 : Int) = 0 by decide, show ¬ (2 : Int) = 1 by decide, if_false, if_true]
    exact ⟨h2, by omega, by omega, by omega, by omega, by omega, by omega⟩
  · simp [stepL, e, hd, quoteL]
  · simp [stepL, e, hd]
  · simp [stepL, e, hd]

theorem prefix_app (a R : List UInt8) : Lib.hasPrefix (a ++ R) a = true := by
  unfold Lib.hasPrefix
  rw [List.isPrefixOf_iff_prefix]
  exact List.prefix_append a R

theorem ins_rises {nm : ByteArray × V → ByteArray} {cn : ByteArray × V → V} (hnm : ∀ p, nm p = p.1) : ∀ (xs : List (ByteArray × V)) (acc : List (ByteArray × V)), Rises xs → (∀ a ∈ acc, ∀ x ∈ xs, cmpT a.1 x.1 < 0) → insAll nm cn acc xs = acc ++ xs.map fun p => (p.1, cn p)
  | [], acc, _, _ => by simp [insAll]
  | x :: xs, acc, hr, ha => by
    have hlast : ∀ (l : List (ByteArray × V)), (∀ a ∈ l, cmpT a.1 x.1 < 0) → setF x.1 (cn x) l = l ++ [(x.1, cn x)] := by
      intro l
      induction l with
      | nil => intro _; rfl
      | cons a l ih =>
        intro hl
        have h0 := hl a (by simp)
        simp only [setF, if_neg (show ¬ cmpT a.1 x.1 = 0 by omega), if_neg (show ¬ 0 < cmpT a.1 x.1 by omega)]
        rw [ih fun b hb => hl b (by simp [hb])]
        rfl
    have h1 : insAll nm cn acc (x :: xs) = insAll nm cn (setF (nm x) (cn x) acc) xs := rfl
    rw [h1, hnm, hlast acc fun a h => ha a h x (by simp), ins_rises hnm xs _ hr.tail ?_]
    · simp
    · intro a hm y hy
      rcases List.mem_append.1 hm with hm | hm
      · exact ha a hm y (by simp [hy])
      · rw [List.mem_singleton.1 hm]
        exact hr.all y hy

/-- what is printed is read as it was. -/
theorem value_print : ∀ (n : Nat) (v : V), Nice n v → ∀ m, n < m → Reads (valueP m) (printV (n + 1) v) (canV (n + 1) v) := by
  intro n
  induction n using Nat.strongRecOn with
  | _ n ih =>
    intro v hv m hm R hR
    obtain ⟨m, rfl⟩ : ∃ k, m = k + 1 := ⟨m - 1, by omega⟩
    obtain ⟨k0, k1, ⟨i0, i1⟩, ⟨⟨w, hw⟩, hb⟩⟩ := hv.parts
    obtain ⟨_, _, hri, hli, hfi⟩ := hv.inner
    have hph := print_hd n v hv
    have hhd : hd (printV (n + 1) v ++ R) = hd (printV (n + 1) v) := hd_append hph.1
    have hsk : skip (printV (n + 1) v ++ R) = printV (n + 1) v ++ R := skip_hd (by rw [hhd]; exact ⟨hph.2.2.2.1, hph.2.2.2.2.1, hph.2.2.2.2.2.1, hph.2.2.2.2.2.2⟩)
    have hval : valueP (m + 1) (printV (n + 1) v ++ R) = (if hd (printV (n + 1) v) = 45 ∨ (48 ≤ hd (printV (n + 1) v) ∧ hd (printV (n + 1) v) ≤ 57) then numP (printV (n + 1) v ++ R)
      else if hd (printV (n + 1) v) = 34 then textP (printV (n + 1) v ++ R) else if hd (printV (n + 1) v) = 91 then listP (valueP m) ((printV (n + 1) v ++ R).drop 1)
      else if hd (printV (n + 1) v) = 123 then objP (valueP m) ((printV (n + 1) v ++ R).drop 1) else wordP (printV (n + 1) v ++ R)) := by
      simp only [valueP, hsk, hhd]
    rw [hval]
    clear hval hsk hhd
    obtain e | e | e | e | e | e : v.kind = 0 ∨ v.kind = 1 ∨ v.kind = 2 ∨ v.kind = 3 ∨ v.kind = 4 ∨ v.kind = 5 := by omega
    · have hp : printV (n + 1) v = wNull := by rw [printV_step]; simp [stepL, e]
      have hc : canV (n + 1) v = nulV := by simp [canV, e]
      rw [hp, hc]
      rw [if_neg (by decide), if_neg (by decide), if_neg (by decide), if_neg (by decide)]
      unfold wordP
      rw [if_pos (prefix_app wNull R)]
      rfl
    · have hc : canV (n + 1) v = boolV v.num := by simp [canV, e]
      rcases hb e with h0 | h1
      · have hp : printV (n + 1) v = wFalse := by rw [printV_step]; simp [stepL, e, h0]
        rw [hp, hc, h0]
        rw [if_neg (by decide), if_neg (by decide), if_neg (by decide), if_neg (by decide)]
        unfold wordP
        rw [if_neg (show ¬ Lib.hasPrefix (wFalse ++ R) wNull = true by simp [Lib.hasPrefix, List.isPrefixOf]), if_pos (prefix_app wFalse R)]
        rfl
      · have hp : printV (n + 1) v = wTrue := by rw [printV_step]; simp [stepL, e, h1]
        rw [hp, hc, h1]
        rw [if_neg (by decide), if_neg (by decide), if_neg (by decide), if_neg (by decide)]
        unfold wordP
        rw [if_neg (show ¬ Lib.hasPrefix (wTrue ++ R) wNull = true by simp [Lib.hasPrefix, List.isPrefixOf]), if_neg (show ¬ Lib.hasPrefix (wTrue ++ R) wFalse = true by simp [Lib.hasPrefix, List.isPrefixOf]), if_pos (prefix_app wTrue R)]
        rfl
    · have hp : printV (n + 1) v = Lib.itoa v.num := by rw [printV_step]; simp [stepL, e]
      have hc : canV (n + 1) v = intV v.num := by simp [canV, e]
      rw [hp, hc, if_pos (itoa_hd v.num)]
      exact num_itoa v.num i0 i1 R hR.1 hR.2
    · have hp : printV (n + 1) v = quoteL v.text.data.toList := by rw [printV_step]; simp [stepL, e]
      have hc : canV (n + 1) v = textV v.text := by simp [canV, e]
      rw [hp, hc, if_neg (by rw [quote_hd]; decide), if_pos (quote_hd _)]
      unfold textP
      rw [readL_quote, show mend v.text.data.toList = v.text.data.toList by rw [hw]; exact word_mend w]
      simp only [drop_app]
    · have hp : printV (n + 1) v = 91 :: (sepBy (v.list.map (printV n)) ++ [93]) := by rw [printV_step]; simp [stepL, e]
      have hc : canV (n + 1) v = listV (v.list.map (canV n)) := by simp [canV, e]
      rw [hp, hc, show hd (91 :: (sepBy (v.list.map (printV n)) ++ [93])) = 91 from rfl, if_neg (by decide), if_neg (by decide), if_pos rfl]
      have hdr : (91 :: (sepBy (v.list.map (printV n)) ++ [93]) ++ R).drop 1 = sepBy (v.list.map (printV n)) ++ 93 :: R := by simp
      rw [hdr, ← join_sep]
      clear hdr hp hc hph
      have hrd : ∀ x ∈ v.list, Reads (valueP m) (printV n x) (canV n x) := fun x hx => by
        obtain ⟨k, rfl, hk⟩ := hli x hx
        exact ih k (by omega) x hk m (by omega)
      cases hlist : v.list with
      | nil =>
        show listP (valueP m) (93 :: R) = .ok (listV [], R)
        unfold listP
        rw [skip_hd (l := 93 :: R) (show (93 : Nat) ≠ 9 ∧ (93 : Nat) ≠ 10 ∧ (93 : Nat) ≠ 13 ∧ (93 : Nat) ≠ 32 by decide), if_pos (show hd (93 :: R) = 93 from rfl)]
        rfl
      | cons x xs =>
        rw [hlist] at hrd hli
        have hj := elems_join (g := valueP m) [] (fun l => rfl) (printV n) (canV n) R (x :: xs) ((joinB [] ((x :: xs).map (printV n)) ++ 93 :: R).length + 1) [] (by simp) (by
          have := join_len [] ((x :: xs).map (printV n))
          rw [List.length_map] at this
          simp only [List.length_append, List.length_cons] at this ⊢
          omega) hrd
        have hx := hli x (by simp)
        obtain ⟨k, rfl, hk⟩ := hx
        have hxh := print_hd k x hk
        obtain ⟨T, hT⟩ : ∃ T, joinB [] ((x :: xs).map (printV (k + 1))) ++ 93 :: R = printV (k + 1) x ++ T := by
          cases xs with
          | nil => exact ⟨93 :: R, rfl⟩
          | cons y r => exact ⟨44 :: (joinB [] ((y :: r).map (printV (k + 1))) ++ 93 :: R), by simp [joinB]⟩
        have hsk : skip (joinB [] ((x :: xs).map (printV (k + 1))) ++ 93 :: R) = joinB [] ((x :: xs).map (printV (k + 1))) ++ 93 :: R := by
          rw [hT]
          exact skip_hd (by rw [hd_append hxh.1]; exact ⟨hxh.2.2.2.1, hxh.2.2.2.2.1, hxh.2.2.2.2.2.1, hxh.2.2.2.2.2.2⟩)
        unfold listP
        rw [hsk, if_neg (by rw [hT, hd_append hxh.1]; exact hxh.2.1), hj]
        rfl
    · have hp : printV (n + 1) v = 123 :: (sepBy (v.fields.map (fieldL n)) ++ [125]) := by rw [printV_step]; simp [stepL, e]
      have hc : canV (n + 1) v = objV (v.fields.map fun p => (p.1, canV n p.2)) := by simp [canV, e]
      rw [hp, hc, show hd (123 :: (sepBy (v.fields.map (fieldL n)) ++ [125])) = 123 from rfl, if_neg (by decide), if_neg (by decide), if_neg (by decide), if_pos rfl]
      have hdr : (123 :: (sepBy (v.fields.map (fieldL n)) ++ [125]) ++ R).drop 1 = sepBy (v.fields.map (fieldL n)) ++ 125 :: R := by simp
      rw [hdr, ← join_sep]
      clear hdr hp hc hph
      have hrd : ∀ x ∈ v.fields, Reads (valueP m) (printV n x.2) (canV n x.2) ∧ mend x.1.data.toList = x.1.data.toList := fun x hx => by
        obtain ⟨⟨i, hi⟩, k, rfl, hk⟩ := hfi x hx
        exact ⟨ih k (by omega) x.2 hk m (by omega), by rw [hi]; exact name_mend i⟩
      cases hlist : v.fields with
      | nil =>
        show objP (valueP m) (125 :: R) = .ok (objV [], R)
        unfold objP
        rw [skip_hd (l := 125 :: R) (show (125 : Nat) ≠ 9 ∧ (125 : Nat) ≠ 10 ∧ (125 : Nat) ≠ 13 ∧ (125 : Nat) ≠ 32 by decide), if_pos (show hd (125 :: R) = 125 from rfl)]
        rfl
      | cons x xs =>
        rw [hlist] at hrd hri
        have hfe : ((x :: xs).map (fieldL n)) = (x :: xs).map fun p => fieldB [] [] p.1 (printV n p.2) := by
          apply List.map_congr_left
          intro p _
          simp [fieldL, fieldB]
        have hpw : (x :: xs).Pairwise fun a b => ¬ cmpT b.1 a.1 = 0 := by
          have hall : ∀ (l : List (ByteArray × V)), Rises l → l.Pairwise fun a b => ¬ cmpT b.1 a.1 = 0 := by
            intro l
            induction l with
            | nil => intro _; exact .nil
            | cons a l ihl =>
              intro hr
              refine List.pairwise_cons.2 ⟨fun b hb => ?_, ihl hr.tail⟩
              have h1 := hr.all b hb
              have h2 := good_cmpT.anti a.1 b.1
              omega
          exact hall _ hri
        rw [hfe]
        have hj := membs_join (g := valueP m) [] [] [] (fun _ h => by cases h) (fun _ h => by cases h) (fun l => rfl) (fun p : ByteArray × V => p.1) (fun p => printV n p.2) (fun p => canV n p.2) R (x :: xs) ((joinB [] ((x :: xs).map fun p => fieldB [] [] p.1 (printV n p.2)) ++ 125 :: R).length + 1) [] [] (fun _ h => by cases h) (by simp) (by
          have := join_len [] ((x :: xs).map fun p => fieldB [] [] p.1 (printV n p.2))
          rw [List.length_map] at this
          simp only [List.length_append, List.length_cons] at this ⊢
          omega) hrd (fun _ _ => rfl) hpw
        obtain ⟨T, hT⟩ : ∃ T, joinB [] ((x :: xs).map fun p => fieldB [] [] p.1 (printV n p.2)) ++ 125 :: R = quoteL x.1.data.toList ++ T := by
          cases xs with
          | nil => exact ⟨58 :: (printV n x.2 ++ 125 :: R), by simp [joinB, fieldB]⟩
          | cons y r => exact ⟨58 :: (printV n x.2 ++ 44 :: (joinB [] ((y :: r).map fun p => fieldB [] [] p.1 (printV n p.2)) ++ 125 :: R)), by simp [joinB, fieldB]⟩
        have hsk : skip (joinB [] ((x :: xs).map fun p => fieldB [] [] p.1 (printV n p.2)) ++ 125 :: R) = joinB [] ((x :: xs).map fun p => fieldB [] [] p.1 (printV n p.2)) ++ 125 :: R := by
          rw [hT]
          exact skip_hd (by rw [hd_append (quote_ne _), quote_hd]; decide)
        unfold objP
        rw [hsk, if_neg (by rw [hT, hd_append (quote_ne _), quote_hd]; decide)]
        rw [show ([] : List UInt8) ++ (joinB [] ((x :: xs).map fun p => fieldB [] [] p.1 (printV n p.2)) ++ 125 :: R) = joinB [] ((x :: xs).map fun p => fieldB [] [] p.1 (printV n p.2)) ++ 125 :: R from rfl] at hj
        rw [hj]
        show Except.ok (objV (insAll (fun p : ByteArray × V => p.1) (fun p => canV n p.2) [] (x :: xs)), R) = _
        rw [ins_rises (fun _ => rfl) (x :: xs) [] hri (fun a ha => by cases ha)]
        rfl
end Go.Proofs.YtdcaohnaiepllaaGreatDoor

namespace Go.Proofs
open Go.Shelf
end Go.Proofs
namespace Go.Proofs.YtdcaohnaiepllaaGreatDoor
open Go.RowKit

def U8 (w : World) : Prop := Lib.Utf8Tabs 7 8 w

end Go.Proofs.YtdcaohnaiepllaaGreatDoor

namespace Go.Proofs.YtdcaohnaiepllaaGreatDoor
open Go.RowKit

def maxI : Int → List Int → Int
  | m, [] => m
  | m, x :: xs => maxI (max m x) xs
/-- how deep a value is, so deep. -/
def depthV : Nat → V → Int
  | 0, _ => 1
  | n + 1, v => 1 + (if v.kind = 4 then maxI 0 (v.list.map (depthV n)) else if v.kind = 5 then maxI 0 (v.fields.map fun p => depthV n p.2) else 0)
theorem maxI_bound (b : Int) : ∀ (l : List Int) (m : Int), m ≤ b → (∀ x ∈ l, x ≤ b) → m ≤ maxI m l ∧ maxI m l ≤ b
  | [], m, h, _ => ⟨Int.le_refl _, h⟩
  | x :: xs, m, h, hx => by
    have hx0 := hx x (by simp)
    have := maxI_bound b xs (max m x) (by omega) fun y hy => hx y (by simp [hy])
    simp only [maxI]
    exact ⟨by omega, this.2⟩
theorem depthV_bound : ∀ (n : Nat) (v : V), 1 ≤ depthV n v ∧ depthV n v ≤ n + 1
  | 0, _ => by simp [depthV]
  | n + 1, v => by
    simp only [depthV]
    split
    · have := maxI_bound ((n : Int) + 1) (v.list.map (depthV n)) 0 (by omega) (fun x hx => by obtain ⟨y, _, rfl⟩ := List.mem_map.1 hx; exact (depthV_bound n y).2)
      omega
    · split
      · have := maxI_bound ((n : Int) + 1) (v.fields.map fun p => depthV n p.2) 0 (by omega) (fun x hx => by obtain ⟨y, _, rfl⟩ := List.mem_map.1 hx; exact (depthV_bound n y.2).2)
        omega
      · omega
theorem maxI_snoc : ∀ (l : List Int) (m x : Int), maxI m (l ++ [x]) = max (maxI m l) x
  | [], _, _ => rfl
  | y :: l, m, x => by simp only [List.cons_append, maxI]; exact maxI_snoc l _ x

end Go.Proofs.YtdcaohnaiepllaaGreatDoor

namespace Go.Proofs.YtdcaohnaiepllaaGreatDoor
open Go.RowKit

theorem U8.later {w w' : World} (h : U8 w) (hb : Below w.heap.size w w') : U8 w' := by
  refine ⟨fun c hc => ?_, fun i hi => ⟨?_, ?_⟩⟩
  · rw [hb.cell (lt_of_cell (h.1 c hc))]; exact h.1 c hc
  · rw [hb.cell (lt_of_cell (h.2 i hi).1)]; exact (h.2 i hi).1
  · rw [hb.cell (lt_of_cell (h.2 i hi).2)]; exact (h.2 i hi).2

/-- a value with nothing beside its kind, and texts that are UTF-8. -/
def VOk : Nat → V → Prop
  | 0, v => v = nulV ∨ (v = boolV 0 ∨ v = boolV 1) ∨ (∃ m, v = intV m) ∨ (∃ t, v = textV t ∧ t.size ≤ 1000000 ∧ Lib.validD t.data.toList = true) ∨ v = listV [] ∨ v = objV []
  | n + 1, v => v = nulV ∨ (v = boolV 0 ∨ v = boolV 1) ∨ (∃ m, v = intV m) ∨ (∃ t, v = textV t ∧ t.size ≤ 1000000 ∧ Lib.validD t.data.toList = true) ∨ (∃ l, v = listV l ∧ ∀ x ∈ l, VOk n x) ∨ (∃ f, v = objV f ∧ Rises f ∧ ∀ p ∈ f, p.1.size ≤ 1000000 ∧ Lib.validD p.1.data.toList = true ∧ VOk n p.2)

theorem str_ge {p q : ByteArray} (h : cmpT p q < 0) : Op.bytesLess p.toList q.toList = true := by
  rw [bytesLess_eq]
  exact decide_eq_true h

end Go.Proofs.YtdcaohnaiepllaaGreatDoor

namespace Go.Proofs.YtdcaohnaiepllaaGreatDoor
open Go.RowKit Go.Extern.Stop Go.Stop Go.Extern

theorem rd_bound : ∀ (n : Nat) (l out : List UInt8) (k : Nat) (o : List UInt8) (m : Nat), l.length ≤ n → rd l out k = some (o, m) → m ≤ k + l.length
  | n, [], out, k, o, m, _, h => by rw [rd_nil] at h; cases h
  | 0, b :: t, out, k, o, m, hn, h => by simp at hn
  | n + 1, b :: t, out, k, o, m, hn, h => by
    by_cases hb : b.toNat = 34
    · rw [rd_quote b t out k hb] at h
      cases h
      simp only [List.length_cons]; omega
    · cases h1 : one (b :: t) with
      | none => rw [rd_none b t out k hb h1] at h; cases h
      | some cw =>
        obtain ⟨c, w⟩ := cw
        rw [rd_some b t out k c w hb h1] at h
        have hp := one_pos h1
        have hl := one_len (by simp) h1
        have := rd_bound n _ _ _ _ _ (by rw [List.length_drop]; omega) h
        rw [List.length_drop] at this
        omega
theorem readL_bound {l o : List UInt8} {m : Nat} (h : readL l = some (o, m)) : m ≤ l.length := by
  cases l with
  | nil => cases h
  | cons b t =>
    simp only [readL] at h
    split at h
    · have := rd_bound t.length t [] 1 o m (Nat.le_refl _) h
      simp only [List.length_cons]; omega
    · cases h

/-- what is answered for a text. -/
def AnsT (w0 : World) (b : Nat) (s : ByteArray) (W : World) (l : List UInt8) (r : Option (List UInt8 × Nat)) (e : Ending) (w' : World) : Prop :=
  Kept b W w' ∧
  match r with
  | none => ∃ x, e = .returned (.tuple #[.string ⟨#[]⟩, x]) ∧ Flt 1 w' x
  | some r => e = .returned (.tuple #[.string ⟨r.1.toArray⟩, .nilIface]) ∧ ∃ k', Rd w0 b s k' w' ∧ s.data.toList.drop k' = l.drop r.2

theorem Wrap_any (x : Value) (hx : ∃ u z, x = .iface u z) (p : ByteArray) (w : World) : Calls Tryz.prog 87 #[x, .string p] w fun e w' => e = .returned (.iface 75 (.pointer (some ⟨w.heap.size, 0, none⟩))) ∧ w' = w.alloc (.cells #[.string p, x] 77) := by
  obtain ⟨u, z, rfl⟩ := hx
  go_enter Tryz.func87, Tryz.ntmps87
  go_wp2
  go_ret
  exact ⟨rfl, rfl⟩
theorem Bad.iface' {w : World} {v : Value} (h : Bad w v) : ∃ u z, v = .iface u z := by
  obtain ⟨p, h⟩ := h
  exact h.iface

theorem undrew {B : Nat} {w W : World} (h : Below B w.drew W) : Below B w W := ⟨h.os, h.tape, h.output, h.size, h.block⟩

set_option maxHeartbeats 2000000 in
theorem quoted_any {w0 w : World} {b k : Nat} {s : ByteArray} (R : Rd w0 b s k w) {r : Option (List UInt8 × Nat)} (hr : readL (s.data.toList.drop k) = r) :
    Calls Tryz.prog 64 #[.pointer (some ⟨b, 0, none⟩)] w (AnsT w0 b s w (s.data.toList.drop k) r) := by
  obtain ⟨c0, c1, cf, hb⟩ := R.cells
  have hk := R.hk
  have hs := R.hs
  have C0 := fun d os => below_regrown_cell c0 d os
  have C1 := fun d os => below_regrown_cell c1 d os
  have hdl := drop_list (s := s) rfl k
  have hz : (s.extract k s.size).size ≤ 140737488355320 := by rw [size_list hdl, List.length_drop, ← size_list (s := s) rfl]; omega
  have hU := fun W (hW : Below w.heap.size w W) => Unquote_any (s.extract k s.size) hz W (R.now.text.below hW)
  rw [hdl, hr] at hU
  have z0 : (0 : Int) ≤ (k : Int) := by omega
  have z1 : (k : Int) ≤ (s.size : Int) := by omega
  have HK := (show Hid _ from And.intro hk (And.intro hs (And.intro hr R)))
  clear hk hs hdl hz R
  cases r with
  | none =>
    clear hr
    go_enter Tryz.func64, Tryz.ntmps64
    go_wp2_with fail
    go_region_with (go_at_call 86; refine (hU _ (Below.refl _ _).drew).mono ?_; rintro e w' ⟨⟨v, rfl, hv⟩, hb'⟩; obtain ⟨u, z, rfl⟩ := hv.iface'; have HV := (show Hid _ from And.intro hv hb'); clear hv hb')
    all_goals
      have hb1 : Below w.heap.size w w' := undrew HV.out.2
      obtain ⟨hk, hs, hr, R⟩ := HK.out
      have hp := jplace_any (R.same hb1)
      have HR := (show Hid _ from hb1)
      clear hU C0 C1 c0 c1 cf hb hk hs hr R hb1
      go_wp2_with fail
      refine hp.mono ?_
      rintro e w2 ⟨⟨p, rfl⟩, hb2⟩
      go_wp2_with fail
      refine (Wrap_any _ ⟨_, _, rfl⟩ p _).mono ?_
      rintro e w3 ⟨rfl, rfl⟩
      go_wp2_with fail
      go_ret2
      have hb1 := HR.out
      have hb3 := (hb1.trans (hb2.mono hb1.size))
      refine ⟨Kept.of_below (hb3.alloc hb3.size _), _, rfl, ?_⟩
      obtain ⟨q, hq⟩ := (HV.out.1.below hb2).below ((Below.refl _ _).alloc (Nat.le_refl _) _)
      refine ⟨[p, q], _, _, rfl, ?_, hq⟩
      show (Array.push _ _)[_]? = _
      rw [Array.getElem?_push, if_pos rfl]
  | some r =>
    have hm := readL_bound hr
    rw [List.length_drop, ← size_list (s := s) rfl] at hm
    have z2 : (k : Int) + (r.2 : Int) ≤ 5000 := by have := HK.out.2.1; omega
    have HM := (show Hid _ from hm)
    clear hr hm
    go_enter Tryz.func64, Tryz.ntmps64
    go_wp2_with fail
    go_region_with (go_at_call 86; refine (hU _ (Below.refl _ _).drew).mono ?_; rintro e w' ⟨hv, hb'⟩; simp only [Tells] at hv; subst hv; have HV := (show Hid _ from hb'); clear hb')
    all_goals
      have hb1 : Below w.heap.size w w' := undrew HV.out
      obtain ⟨hk, hs, hr, R⟩ := HK.out
      have R1 := R.same hb1
      obtain ⟨d0, d1, df, dd⟩ := R1.cells
      have HR := (show Hid _ from And.intro hb1 R1)
      clear hU C0 C1 c0 c1 cf hb hk hs hr R hb1 R1
      go_wp2_with fail
      go_ret2
      obtain ⟨hb1, R1⟩ := HR.out
      refine ⟨(Kept.of_below hb1).trans (Kept.set _), rfl, k + r.2, ?_, by rw [List.drop_drop]⟩
      exact R1.set (k' := k + r.2) (by have := HM.out; have := HK.out.1; omega)

set_option maxHeartbeats 2000000 in
theorem text_any {w0 w : World} {b k : Nat} {s : ByteArray} (R : Rd w0 b s k w) :
    Calls Tryz.prog 34 #[.pointer (some ⟨b, 0, none⟩)] w (Ans w0 b s 0 w (textP (s.data.toList.drop k))) := by
  have hB : Below w.heap.size w (w.alloc (.cells #[.int .i64 0, .int .i64 0, .string ⟨#[]⟩, .slice none 0 0, .slice none 0 0] 31)) := (Below.refl _ _).alloc (Nat.le_refl _) _
  have R1 := R.same hB
  obtain ⟨r, hr⟩ : ∃ r, readL (s.data.toList.drop k) = r := ⟨_, rfl⟩
  have hq := quoted_any R1 hr
  obtain ⟨RR, hRR⟩ : ∃ r, textP (s.data.toList.drop k) = r := ⟨_, rfl⟩
  rw [hRR]
  have HW := (show Hid _ from And.intro hr hRR)
  have HR0 := (show Hid _ from R)
  clear hr hRR R R1 hB
  cases r with
  | none =>
    go_enter Tryz.func34, Tryz.ntmps34
    go_wp2_with fail
    refine hq.mono ?_
    rintro e w1 ⟨K1, x, rfl, hx⟩
    obtain ⟨r0, K1', hne, hle⟩ := wordRow HR0.out K1
    obtain ⟨j0, j1, j2, j3, j4, jf⟩ := row5 r0
    obtain ⟨u, z, rfl⟩ := hx.iface
    have HX := (show Hid _ from And.intro hx (And.intro K1' r0))
    clear hx K1' r0 hq K1
    go_wp2
    obtain ⟨hx, K1', r0⟩ := HX.out
    obtain ⟨q1, hr⟩ := HW.out
    refine bodyPost_ret (v := .tuple #[zeroA, .iface u z]) (by simp [results, Tryz.results34, go_sem, j0, j1, j2, j3, j4]) rfl (Ans.err hx K1' r0 ?_ 0 1 2 3 4 _ _ _ _ _)
    rw [← hr]
    unfold textP
    rw [q1]
  | some r =>
    go_enter Tryz.func34, Tryz.ntmps34
    go_wp2_with fail
    refine hq.mono ?_
    rintro e w1 ⟨K1, rfl, k1, R1, hd1⟩
    obtain ⟨r0, K1', hne, hle⟩ := wordRow HR0.out K1
    obtain ⟨j0, j1, j2, j3, j4, jf⟩ := row5 r0
    have HX := (show Hid _ from And.intro R1 (And.intro K1' (And.intro hne (And.intro hle hd1))))
    clear R1 K1 K1' r0 hne hle hd1 hq
    go_wp2
    obtain ⟨R1, K1', hne, hle, hd1⟩ := HX.out
    obtain ⟨q1, hr⟩ := HW.out
    refine bodyPost_ret (v := .tuple #[.agg #[.int .i64 3, .int .i64 0, .string ⟨r.1.toArray⟩, .slice none 0 0, .slice none 0 0], .nilIface]) (by simp [results, Tryz.results34, go_sem, j0, j1, j2, j3, j4]) rfl (Ans.leaf R1 K1' hne hle 3 0 ⟨r.1.toArray⟩ ?_ 0 1 2 3 4 _ _ _ _ _)
    rw [← hr]
    unfold textP
    rw [q1, hd1]
    rfl
end Go.Proofs.YtdcaohnaiepllaaGreatDoor

namespace Go.Proofs.YtdcaohnaiepllaaGreatDoor
open Go.RowKit Go.Extern.Stop Go.Stop Go.Extern

theorem cut_list {s : ByteArray} {l : List UInt8} (h : s.data.toList = l) (a b : Nat) : (s.extract a b).data.toList = (l.drop a).take (b - a) := by
  subst h
  rw [ByteArray.data_extract, Array.toList_extract]

theorem take_at {w0 w : World} {b k : Nat} {s : ByteArray} (R : Rd w0 b s k w) (c : UInt8) (hc : c.toNat ≠ 0) {p : Bool} (hp : decide (hd (s.data.toList.drop k) = c.toNat) = p) :
    Calls Tryz.prog 61 #[.pointer (some ⟨b, 0, none⟩), .string ⟨#[c]⟩] w fun e w' => e = .returned (.bool p) ∧ Kept b w w' ∧ Rd w0 b s (k + p.toNat) w' := by
  refine (take_any R ⟨#[c]⟩ (by show (1 : Nat) ≤ 100; decide) (p := p) (by rw [← hp]; exact has_one _ c hc)).mono ?_
  rintro e w' ⟨rfl, hk, hR⟩
  refine ⟨rfl, hk, ?_⟩
  cases p
  · exact hR
  · exact hR

theorem digs_hd {l : List UInt8} (h : 48 ≤ hd l ∧ hd l ≤ 57) : ∃ b t, l = b :: t ∧ digs l = digs t + 1 := by
  cases l with
  | nil => simp only [hd] at h; omega
  | cons b t => exact ⟨b, t, rfl, if_pos h⟩
theorem digs_no {l : List UInt8} (h : ¬ (48 ≤ hd l ∧ hd l ≤ 57)) : digs l = 0 := by
  cases l with
  | nil => rfl
  | cons b t => exact if_neg h
theorem digs_le : ∀ l : List UInt8, digs l ≤ l.length
  | [] => Nat.le_refl _
  | b :: t => by
    have := digs_le t
    simp only [digs, List.length_cons]
    split <;> omega

/-- what is answered for digits. -/
def AnsD (w0 : World) (b : Nat) (s : ByteArray) (W : World) (k : Nat) (r : Option Nat) (e : Ending) (w' : World) : Prop :=
  Kept b W w' ∧
  match r with
  | none => e = .returned (.bool false) ∧ ∃ k', Rd w0 b s k' w'
  | some n => e = .returned (.bool true) ∧ Rd w0 b s (k + n) w'

set_option maxHeartbeats 2000000 in
theorem digits_any {w0 w : World} {b k : Nat} {s : ByteArray} (R : Rd w0 b s k w) :
    Calls Tryz.prog 62 #[.pointer (some ⟨b, 0, none⟩)] w (AnsD w0 b s w k (digN (s.data.toList.drop k))) := by
  obtain ⟨RR, hRR⟩ : ∃ r, digN (s.data.toList.drop k) = r := ⟨_, rfl⟩
  rw [hRR]
  have HW := (show Hid _ from And.intro hRR R)
  clear hRR
  by_cases h0 : hd (s.data.toList.drop k) = 48
  · have htk := take_at R 48 (by decide) (p := true) (decide_eq_true h0)
    have H0 := (show Hid _ from h0)
    clear R h0
    go_enter Tryz.func62, Tryz.ntmps62
    go_wp2_with fail
    refine htk.mono ?_
    rintro e w1 ⟨rfl, K1, R1⟩
    obtain ⟨c, hc⟩ : ∃ c : Int, ((hd (s.data.toList.drop (k + true.toNat)) : Nat) : Int) = c := ⟨_, rfl⟩
    have hp := peek_any R1 hc
    have HC := (show Hid _ from hc)
    clear hc htk
    go_wp2_with fail
    refine hp.mono ?_
    rintro e w2 ⟨rfl, hb2⟩
    go_wp2_with fail
    refine (jdigit_any c _).mono ?_
    rintro e w3 ⟨rfl, rfl⟩
    have R2 := R1.same hb2
    have K2 := K1.trans (Kept.of_below hb2)
    have HX := (show Hid _ from And.intro R2 K2)
    obtain ⟨q, hq⟩ : ∃ q, decide (48 ≤ c ∧ c ≤ 57) = q := ⟨_, rfl⟩
    have HQ := (show Hid _ from hq)
    rw [hq]
    clear R2 K2 R1 K1 hb2 hq hp
    go_wp2_with fail
    go_ret
    obtain ⟨R2, K2⟩ := HX.out
    obtain ⟨hr, R⟩ := HW.out
    have h0 := H0.out
    refine ⟨K2, ?_⟩
    rw [← hr]
    unfold digN
    rw [if_pos h0]
    have hc : ((hd ((s.data.toList.drop k).drop 1) : Nat) : Int) = c := by rw [List.drop_drop]; exact HC.out
    cases q
    · have h := of_decide_eq_false HQ.out
      rw [if_neg (by omega)]
      exact ⟨rfl, R2⟩
    · have h := of_decide_eq_true HQ.out
      rw [if_pos (by omega)]
      exact ⟨rfl, _, R2⟩
  · have htk := take_at R 48 (by decide) (p := false) (decide_eq_false h0)
    have H0 := (show Hid _ from h0)
    clear R h0
    go_enter Tryz.func62, Tryz.ntmps62
    go_wp2_with fail
    refine htk.mono ?_
    rintro e w1 ⟨rfl, K1, R1⟩
    have R1 : Rd w0 b s k w1 := R1
    obtain ⟨c0, c1, cf, hb⟩ := R1.cells
    have HX := (show Hid _ from And.intro R1 K1)
    clear htk R1 K1 cf
    go_wp2_with fail
    go_loopg [] s.size (fun gg wr => ∃ k', k ≤ k' ∧ s.size - k' ≤ gg ∧ Rd w0 b s k' wr ∧ Kept b w wr ∧ digs (s.data.toList.drop k) = digs (s.data.toList.drop k') + (k' - k))
    case atStart =>
      obtain ⟨R1, K1⟩ := HX.out
      exact ⟨k, Nat.le_refl _, by omega, R1, K1, by omega⟩
    case round =>
      obtain ⟨k', hk, hgg, R', K', hsk⟩ := hrel
      obtain ⟨c, hc⟩ : ∃ c : Int, ((hd (s.data.toList.drop k') : Nat) : Int) = c := ⟨_, rfl⟩
      have hp := peek_any R' hc
      by_cases hdg : 48 ≤ c ∧ c ≤ 57
      · have hlt : k' < s.size := by
          by_cases h : k' < s.size
          · exact h
          · rw [hd_end h] at hc
            simp only [hd] at hc
            omega
        obtain ⟨x, _, hx⟩ := hd_at hlt
        have hg : digs (s.data.toList.drop k') = digs (s.data.toList.drop (k' + 1)) + 1 := by
          obtain ⟨b1, t1, e1, e2⟩ := digs_hd (l := s.data.toList.drop k') (by omega)
          rw [hx] at e1
          injection e1 with _ e3
          rw [e2, e3]
        have hw64 : (k' : Int) + 1 ≤ 5000 := by have := R'.hs; omega
        have HS := (show Hid _ from And.intro hsk (And.intro hk (And.intro hgg (And.intro hlt (And.intro hg (And.intro R' K'))))))
        have hdt := decide_eq_true hdg
        have hjd := fun W => jdigit_any c W
        rw [hdt] at hjd
        clear hsk hk hgg hg hc hx hdg hdt
        go_wp2_with fail
        refine hp.mono ?_
        rintro e w2 ⟨rfl, hb2⟩
        go_wp2_with fail
        refine (hjd _).mono ?_
        rintro e w3 ⟨rfl, rfl⟩
        have R2 := R'.same hb2
        obtain ⟨d0, d1, df, hdb⟩ := R2.cells
        have HY := (show Hid _ from And.intro R2 hb2)
        clear R' K' R2 hb2 hp hjd
        go_wp2_with fail
        go_roundg (s.size - (k' + 1))
        case measure => have := HS.out; omega
        case rel =>
          obtain ⟨hsk, hk, hgg, hlt, hg, R', K'⟩ := HS.out
          obtain ⟨R2, hb2⟩ := HY.out
          refine ⟨k' + 1, by omega, by omega, R2.set (k' := k' + 1) (by omega), (K'.trans (Kept.of_below hb2)).trans (Kept.set _), by omega⟩
      · have hg := digs_no (l := s.data.toList.drop k') (by omega)
        have hdt := decide_eq_false hdg
        have hjd := fun W => jdigit_any c W
        rw [hdt] at hjd
        have HS := (show Hid _ from And.intro hsk (And.intro hk (And.intro hg (And.intro R' K'))))
        clear hsk hk hgg hg hc hdg hdt
        go_wp2_with fail
        refine hp.mono ?_
        rintro e w2 ⟨rfl, hb2⟩
        go_wp2_with fail
        refine (hjd _).mono ?_
        rintro e w3 ⟨rfl, rfl⟩
        have R2 := R'.same hb2
        obtain ⟨d0, d1, df, hdb⟩ := R2.cells
        have HY := (show Hid _ from And.intro R2 hb2)
        clear R' K' R2 hb2 hp hjd
        by_cases hz : k < k'
        · have z1 : (k : Int) < (k' : Int) := by omega
          have z2 : ¬ (k' : Int) ≤ (k : Int) := by omega
          go_wp2_with fail
          go_ret
          obtain ⟨hsk, hk, hg, R', K'⟩ := HS.out
          obtain ⟨R2, hb2⟩ := HY.out
          refine ⟨K'.trans (Kept.of_below hb2), ?_⟩
          rw [← HW.out.1]
          unfold digN
          rw [if_neg H0.out, if_neg (by omega)]
          refine ⟨rfl, ?_⟩
          rw [show k + digs (s.data.toList.drop k) = k' by omega]
          exact R2
        · have z0 : (k' : Int) = (k : Int) := by have := HS.out.2.1; omega
          have z1 : ¬ (k : Int) < (k' : Int) := by omega
          have z2 : (k' : Int) ≤ (k : Int) := by omega
          clear z0
          go_wp2_with fail
          go_ret
          obtain ⟨hsk, hk, hg, R', K'⟩ := HS.out
          obtain ⟨R2, hb2⟩ := HY.out
          refine ⟨K'.trans (Kept.of_below hb2), ?_⟩
          rw [← HW.out.1]
          unfold digN
          rw [if_neg H0.out, if_pos (by omega)]
          exact ⟨rfl, _, R2⟩
end Go.Proofs.YtdcaohnaiepllaaGreatDoor
