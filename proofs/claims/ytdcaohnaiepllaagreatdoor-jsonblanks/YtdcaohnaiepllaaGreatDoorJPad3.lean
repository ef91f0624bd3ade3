/-
  A value's text with blanks between its parts is read as the value: plain facts. No program here.
-/
import Derived.Test.YtdcaohnaiepllaaGreatDoorJPad2
namespace Go.Proofs.YtdcaohnaiepllaaGreatDoor

theorem pad_len (pd : Nat → List UInt8) : ∀ (l : List UInt8) (i : Nat) (q : Bool), l.length ≤ (padL pd i q l).length
  | [], _, _ => Nat.le_refl _
  | c :: t, i, q => by
    have := pad_len pd t (i + 1) (qNext q c)
    show t.length + 1 ≤ (c :: (_ ++ padL pd (i + 1) (qNext q c) t)).length
    rw [List.length_cons, List.length_append]
    omega
theorem pad_hd (pd : Nat → List UInt8) (l T : List UInt8) (i : Nat) (q : Bool) (h : l ≠ []) : hd (padL pd i q l ++ T) = hd l := by
  cases l with
  | nil => exact absurd rfl h
  | cons c t => rfl
theorem sep_hd (x : List UInt8) (xs : List (List UInt8)) (h : x ≠ []) : hd (sepBy (x :: xs)) = hd x ∧ sepBy (x :: xs) ≠ [] := by
  cases xs with
  | nil => exact ⟨rfl, h⟩
  | cons y r =>
    refine ⟨hd_append h, ?_⟩
    show x ++ _ ≠ []
    simp [h]
theorem q_sep : ∀ (xs : List (List UInt8)), (∀ x ∈ xs, qAll false x = false) → qAll false (sepBy xs) = false
  | [], _ => rfl
  | [x], h => h x (by simp)
  | x :: y :: r, h => by
    show qAll false (x ++ 44 :: sepBy (y :: r)) = false
    rw [qAll_append, h x (by simp)]
    exact q_sep (y :: r) (fun z hz => h z (by simp [hz]))
theorem sep_len (xs : List (List UInt8)) : xs.length ≤ (sepBy xs).length + 1 := by
  rw [← join_sep]; exact join_len [] xs
theorem value_list (m : Nat) (T : List UInt8) : valueP (m + 1) (91 :: T) = listP (valueP m) T := by
  have hs : skip (91 :: T) = 91 :: T := skip_hd (show (91 : Nat) ≠ 9 ∧ (91 : Nat) ≠ 10 ∧ (91 : Nat) ≠ 13 ∧ (91 : Nat) ≠ 32 by decide)
  simp only [valueP, hs, show hd (91 :: T) = 91 from rfl]
  rw [if_neg (by decide), if_neg (by decide), if_pos trivial]; rfl
theorem value_obj (m : Nat) (T : List UInt8) : valueP (m + 1) (123 :: T) = objP (valueP m) T := by
  have hs : skip (123 :: T) = 123 :: T := skip_hd (show (123 : Nat) ≠ 9 ∧ (123 : Nat) ≠ 10 ∧ (123 : Nat) ≠ 13 ∧ (123 : Nat) ≠ 32 by decide)
  simp only [valueP, hs, show hd (123 :: T) = 123 from rfl]
  rw [if_neg (by decide), if_neg (by decide), if_neg (by decide), if_pos trivial]; rfl
theorem pad_box (pd : Nat → List UInt8) (a z : UInt8) (S : List UInt8) (i : Nat) (ha : a = 91 ∨ a = 123) (hz : z = 93 ∨ z = 125) (hS : qAll false S = false) :
    padL pd i false (a :: (S ++ [z])) = a :: (pd i ++ (padL pd (i + 1) false S ++ [z])) ∧ qAll false (a :: (S ++ [z])) = false := by
  have h1 : padL pd (i + 1) false (S ++ [z]) = padL pd (i + 1) false S ++ [z] := by
    rw [pad_append, hS]
    rcases hz with rfl | rfl <;> rfl
  have h2 : qAll false (S ++ [z]) = false := by
    rw [qAll_append, hS]
    rcases hz with rfl | rfl <;> rfl
  rcases ha with rfl | rfl
  · exact ⟨by show 91 :: (pd i ++ padL pd (i + 1) false (S ++ [z])) = _; rw [h1], h2⟩
  · exact ⟨by show 123 :: (pd i ++ padL pd (i + 1) false (S ++ [z])) = _; rw [h1], h2⟩
theorem word_quo (i : Nat) : ∀ c ∈ quo (wordAt i).data.toList, c ≠ 34 := by
  unfold wordAt
  split <;> decide +kernel
theorem name_quo (i : Nat) : ∀ c ∈ quo (nameAt i).data.toList, c ≠ 34 := by
  unfold nameAt
  split <;> decide +kernel
theorem itoa_still (n : Int) : Still (Lib.itoa n) := by
  have hd : ∀ c : UInt8, isDg c → c ≠ 34 ∧ opens c = false := by
    intro c hc
    have h1 : 48 ≤ c.toNat ∧ c.toNat ≤ 57 := hc
    have ne : ∀ k : Nat, k < 48 ∨ 57 < k → k < 256 → c ≠ UInt8.ofNat k := by
      intro k hk hk2 e
      have := congrArg UInt8.toNat e
      rw [UInt8.toNat_ofNat'] at this
      omega
    refine ⟨ne 34 (by omega) (by omega), ?_⟩
    have e1 := ne 44 (by omega) (by omega)
    have e2 := ne 58 (by omega) (by omega)
    have e3 := ne 91 (by omega) (by omega)
    have e4 := ne 123 (by omega) (by omega)
    unfold opens
    simp only [Bool.or_eq_false_iff, decide_eq_false_iff_not]
    exact ⟨⟨⟨e1, e2⟩, e3⟩, e4⟩
  rcases itoa_cases n with ⟨_, e⟩ | ⟨_, e⟩
  · rw [e]
    intro c hc
    rcases List.mem_cons.1 hc with rfl | h
    · decide
    · exact hd c (dec_all _ c h)
  · rw [e]
    intro c hc
    exact hd c (dec_all _ c hc)

theorem value_pad (pd : Nat → List UInt8) (hpd : ∀ i, Bls (pd i)) : ∀ (n : Nat) (v : V), Nice n v → qAll false (printV (n + 1) v) = false ∧ ∀ m i, n < m → Reads (valueP m) (padL pd i false (printV (n + 1) v)) (canV (n + 1) v) := by
  intro n
  induction n using Nat.strongRecOn with
  | _ n ih =>
    intro v hv
    have hsame : (∀ i, padL pd i false (printV (n + 1) v) = printV (n + 1) v ∧ qAll false (printV (n + 1) v) = false) → qAll false (printV (n + 1) v) = false ∧ ∀ m i, n < m → Reads (valueP m) (padL pd i false (printV (n + 1) v)) (canV (n + 1) v) := by
      intro h
      exact ⟨(h 0).2, fun m i hm => by rw [(h i).1]; exact value_print n v hv m hm⟩
    obtain ⟨k0, k1, ⟨i0, i1⟩, ⟨⟨w, hw⟩, hb⟩⟩ := hv.parts
    obtain ⟨_, _, hri, hli, hfi⟩ := hv.inner
    obtain e | e | e | e | e | e : v.kind = 0 ∨ v.kind = 1 ∨ v.kind = 2 ∨ v.kind = 3 ∨ v.kind = 4 ∨ v.kind = 5 := by omega
    · have hp : printV (n + 1) v = wNull := by rw [printV_step]; simp [stepL, e]
      exact hsame fun i => by rw [hp]; exact pad_still pd _ i false (by unfold Still; decide)
    · rcases hb e with h0 | h1
      · have hp : printV (n + 1) v = wFalse := by rw [printV_step]; simp [stepL, e, h0]
        exact hsame fun i => by rw [hp]; exact pad_still pd _ i false (by unfold Still; decide)
      · have hp : printV (n + 1) v = wTrue := by rw [printV_step]; simp [stepL, e, h1]
        exact hsame fun i => by rw [hp]; exact pad_still pd _ i false (by unfold Still; decide)
    · have hp : printV (n + 1) v = Lib.itoa v.num := by rw [printV_step]; simp [stepL, e]
      exact hsame fun i => by rw [hp]; exact pad_still pd _ i false (itoa_still _)
    · have hp : printV (n + 1) v = quoteL v.text.data.toList := by rw [printV_step]; simp [stepL, e]
      exact hsame fun i => by rw [hp]; exact pad_quote pd _ i (by rw [hw]; exact word_quo w)
    · have hp : printV (n + 1) v = 91 :: (sepBy (v.list.map (printV n)) ++ [93]) := by rw [printV_step]; simp [stepL, e]
      have hc : canV (n + 1) v = listV (v.list.map (canV n)) := by simp [canV, e]
      have hq : qAll false (sepBy (v.list.map (printV n))) = false := q_sep _ (fun x hx => by
        obtain ⟨y, hy, rfl⟩ := List.mem_map.1 hx
        obtain ⟨k, rfl, hk⟩ := hli y hy
        exact (ih k (by omega) y hk).1)
      rw [hp, hc]
      refine ⟨(pad_box pd 91 93 _ 0 (by simp) (by simp) hq).2, fun m i hm R hR => ?_⟩
      obtain ⟨m, rfl⟩ : ∃ k, m = k + 1 := ⟨m - 1, by omega⟩
      rw [(pad_box pd 91 93 _ i (by simp) (by simp) hq).1, List.cons_append, value_list]
      have hrd : ∀ x ∈ v.list, qAll false (printV n x) = false ∧ ∀ j, Reads (valueP m) (padL pd j false (printV n x)) (canV n x) := fun x hx => by
        obtain ⟨k, rfl, hk⟩ := hli x hx
        exact ⟨(ih k (by omega) x hk).1, fun j => (ih k (by omega) x hk).2 m j (by omega)⟩
      have hlb : ∀ l, listP (valueP m) (pd i ++ l) = listP (valueP m) l := fun l => by
        unfold listP; rw [skip_bls _ _ (hpd i)]
      rw [List.append_assoc, hlb, List.append_assoc]
      show listP (valueP m) (padL pd (i + 1) false (sepBy (v.list.map (printV n))) ++ 93 :: R) = _
      cases hlist : v.list with
      | nil =>
        show listP (valueP m) (93 :: R) = .ok (listV [], R)
        unfold listP
        rw [skip_hd (l := 93 :: R) (show (93 : Nat) ≠ 9 ∧ (93 : Nat) ≠ 10 ∧ (93 : Nat) ≠ 13 ∧ (93 : Nat) ≠ 32 by decide), if_pos (show hd (93 :: R) = 93 from rfl)]
        rfl
      | cons x xs =>
        rw [hlist] at hrd hli
        obtain ⟨k, rfl, hk⟩ := hli x (by simp)
        have hxh := print_hd k x hk
        have hsh := sep_hd (printV (k + 1) x) (xs.map (printV (k + 1))) hxh.1
        obtain ⟨L, hL⟩ : ∃ L, padL pd (i + 1) false (sepBy ((x :: xs).map (printV (k + 1)))) ++ 93 :: R = L := ⟨_, rfl⟩
        have hLh : hd L = hd (printV (k + 1) x) := by rw [← hL, List.map_cons, pad_hd pd _ _ _ _ hsh.2]; exact hsh.1
        have hLl : (x :: xs).length ≤ L.length + 1 := by
          have h1 := sep_len ((x :: xs).map (printV (k + 1)))
          have h2 := pad_len pd (sepBy ((x :: xs).map (printV (k + 1)))) (i + 1) false
          rw [← hL, List.length_append]
          rw [List.length_map] at h1
          omega
        have hj := elems_pad (g := valueP m) pd hpd (fun b l hb => value_bls m b l hb) (printV (k + 1)) (canV (k + 1)) R (x :: xs) (L.length + 1) (i + 1) [] (by simp) hLl hrd
        rw [hL] at hj ⊢
        have hsk : skip L = L := skip_hd (by rw [hLh]; exact ⟨hxh.2.2.2.1, hxh.2.2.2.2.1, hxh.2.2.2.2.2.1, hxh.2.2.2.2.2.2⟩)
        unfold listP
        rw [hsk, if_neg (by rw [hLh]; exact hxh.2.1), hj]
        rfl
    · have hp : printV (n + 1) v = 123 :: (sepBy (v.fields.map (fieldL n)) ++ [125]) := by rw [printV_step]; simp [stepL, e]
      have hc : canV (n + 1) v = objV (v.fields.map fun p => (p.1, canV n p.2)) := by simp [canV, e]
      have hq : qAll false (sepBy (v.fields.map (fieldL n))) = false := q_sep _ (fun x hx => by
        obtain ⟨y, hy, rfl⟩ := List.mem_map.1 hx
        obtain ⟨⟨j, hj⟩, k, rfl, hk⟩ := hfi y hy
        show qAll false (quoteL y.1.data.toList ++ 58 :: printV (k + 1) y.2) = false
        rw [qAll_append, (pad_quote pd _ 0 (by rw [hj]; exact name_quo j)).2]
        exact (ih k (by omega) y.2 hk).1)
      rw [hp, hc]
      refine ⟨(pad_box pd 123 125 _ 0 (by simp) (by simp) hq).2, fun m i hm R hR => ?_⟩
      obtain ⟨m, rfl⟩ : ∃ k, m = k + 1 := ⟨m - 1, by omega⟩
      rw [(pad_box pd 123 125 _ i (by simp) (by simp) hq).1, List.cons_append, value_obj]
      have hrd : ∀ x ∈ v.fields, (qAll false (printV n x.2) = false ∧ ∀ j, Reads (valueP m) (padL pd j false (printV n x.2)) (canV n x.2)) ∧ mend x.1.data.toList = x.1.data.toList ∧ ∀ c ∈ quo x.1.data.toList, c ≠ 34 := fun x hx => by
        obtain ⟨⟨j, hj⟩, k, rfl, hk⟩ := hfi x hx
        exact ⟨⟨(ih k (by omega) x.2 hk).1, fun j => (ih k (by omega) x.2 hk).2 m j (by omega)⟩, by rw [hj]; exact name_mend j, by rw [hj]; exact name_quo j⟩
      have hlb : ∀ l, objP (valueP m) (pd i ++ l) = objP (valueP m) l := fun l => by
        unfold objP; rw [skip_bls _ _ (hpd i)]
      rw [List.append_assoc, hlb, List.append_assoc]
      show objP (valueP m) (padL pd (i + 1) false (sepBy (v.fields.map (fieldL n))) ++ 125 :: R) = _
      cases hlist : v.fields with
      | nil =>
        show objP (valueP m) (125 :: R) = .ok (objV [], R)
        unfold objP
        rw [skip_hd (l := 125 :: R) (show (125 : Nat) ≠ 9 ∧ (125 : Nat) ≠ 10 ∧ (125 : Nat) ≠ 13 ∧ (125 : Nat) ≠ 32 by decide), if_pos (show hd (125 :: R) = 125 from rfl)]
        rfl
      | cons x xs =>
        rw [hlist] at hrd hri
        have hpw : (x :: xs).Pairwise fun a b => ¬ cmpT b.1 a.1 = 0 := by
          have hall : ∀ (l : List (ByteArray × V)), Rises l → l.Pairwise fun a b => ¬ cmpT b.1 a.1 = 0 := by
            intro l
            induction l with
            | nil => intro _; exact .nil
            | cons a l ihl =>
              intro hr
              refine List.pairwise_cons.2 ⟨fun b hb => ?_, ihl hr.tail⟩
              have h1 := hr.all b hb
              have h2 := good_cmpT.anti a.1 b.1
              omega
          exact hall _ hri
        have hne : fieldL n x ≠ [] := by
          show quoteL x.1.data.toList ++ _ ≠ []
          simp [quote_ne]
        have hsh := sep_hd (fieldL n x) (xs.map (fieldL n)) hne
        have hfh : hd (fieldL n x) = 34 := rfl
        obtain ⟨L, hL⟩ : ∃ L, padL pd (i + 1) false (sepBy ((x :: xs).map (fieldL n))) ++ 125 :: R = L := ⟨_, rfl⟩
        have hLh : hd L = 34 := by rw [← hL, List.map_cons, pad_hd pd _ _ _ _ hsh.2, hsh.1]; exact hfh
        have hLl : (x :: xs).length ≤ L.length + 1 := by
          have h1 := sep_len ((x :: xs).map (fieldL n))
          have h2 := pad_len pd (sepBy ((x :: xs).map (fieldL n))) (i + 1) false
          rw [← hL, List.length_append]
          rw [List.length_map] at h1
          omega
        have hj := membs_pad (g := valueP m) pd hpd (fun b l hb => value_bls m b l hb) (fun p : ByteArray × V => p.1) (fun p => printV n p.2) (fun p => canV n p.2) R (x :: xs) (L.length + 1) (i + 1) [] [] (fun _ h => by cases h) (by simp) hLl hrd (fun _ _ => rfl) hpw
        have hj' : membsP (valueP m) (L.length + 1) [] L = .ok (insAll (fun p : ByteArray × V => p.1) (fun p => canV n p.2) [] (x :: xs), R) := by
          rw [← hj, ← hL]; rfl
        rw [hL]
        have hsk : skip L = L := skip_hd (by rw [hLh]; decide)
        unfold objP
        rw [hsk, if_neg (by rw [hLh]; decide), hj']
        show Except.ok (objV (insAll (fun p : ByteArray × V => p.1) (fun p => canV n p.2) [] (x :: xs)), R) = _
        rw [ins_rises (fun _ => rfl) (x :: xs) [] hri (fun a ha => by cases ha)]
        rfl
end Go.Proofs.YtdcaohnaiepllaaGreatDoor
