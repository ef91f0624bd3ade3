/-
  split, turnRight, turnLeft, join: what each is to the whole tree: all entries as they were, nodes as great and as deep as they should. Conditions: as stated.
  split by its contract: a node that is a leaf. Conditions: as stated.
-/
import Derived.Test.YtoaekmighinmhaaU4
import Derived.Test.YtoaekmighinmhaaU11
namespace Go.Proofs.Ytoaekmighinmhaa
open Go.RowKit

theorem two_at {α : Type} {l : List α} {i : Nat} {x y : α} (hx : l[i]? = some x) (hy : l[i + 1]? = some y) : l = l.take i ++ [x, y] ++ l.drop (i + 2) := by
  have h1 := split_at hx
  have h2 : l.drop (i + 1) = y :: l.drop (i + 2) := by
    have hj := (List.getElem?_eq_some_iff.1 hy).1
    have h6 := List.drop_eq_getElem_cons hj
    have h7 : l[i + 1] = y := by rw [List.getElem?_eq_getElem hj] at hy; exact Option.some.inj hy
    rw [h7] at h6
    exact h6
  conv => lhs; rw [h1, h2]
  simp
/-- a tree's kids as they should be, but for how great one is. -/
def WfX (n : Nat) (t : Nd) (P : Nat → Prop) : Prop := t.kids.length = t.es.length + 1 ∧ ∀ j k, t.kids[j]? = some k → WfN n k ∧ (¬ P j → 2 ≤ k.es.length ∧ k.es.length ≤ 4)
/-- what is there behind a deed on some kids: the same entries. -/
def Again (n : Nat) (w : World) (t : Nd) (w' : World) (lo hi : Nat) : Prop :=
  ∃ t', Evo (n + 1) w t w' t' ∧ WfN (n + 1) t' ∧ flatN (n + 1) t' = flatN (n + 1) t ∧ lo ≤ t'.es.length ∧ t'.es.length ≤ hi
theorem wfN_mk {n : Nat} {t : Nd} (h0 : n = 0 → t.kids = []) (h1 : ∀ m, n = m + 1 → t.kids.length = t.es.length + 1 ∧ ∀ k ∈ t.kids, WfN m k ∧ 2 ≤ k.es.length ∧ k.es.length ≤ 4) : WfN n t := by
  cases n with
  | zero => exact h0 rfl
  | succ m => exact h1 m rfl
theorem mem_get {α : Type} {l : List α} {x : α} (h : x ∈ l) : ∃ j : Nat, l[j]? = some x := List.mem_iff_getElem?.1 h
theorem take_get {α : Type} {l : List α} {i : Nat} {x : α} (h : x ∈ l.take i) : ∃ j : Nat, j < i ∧ l[j]? = some x := by
  obtain ⟨j, hj⟩ := mem_get h
  rw [List.getElem?_take] at hj
  split at hj
  · exact ⟨j, by assumption, hj⟩
  · cases hj
theorem drop_get {α : Type} {l : List α} {i : Nat} {x : α} (h : x ∈ l.drop i) : ∃ j : Nat, i ≤ j ∧ l[j]? = some x := by
  obtain ⟨j, hj⟩ := mem_get h
  rw [List.getElem?_drop] at hj
  exact ⟨i + j, by omega, hj⟩

section
variable {n i : Nat} {w w' : World} {t l r c : Nd}
theorem live_len (h : Live n w t) (hn : n ≠ 0) : t.kids.length = t.es.length + 1 := by
  cases n with
  | zero => exact absurd rfl hn
  | succ n => exact h.2.1
theorem live_nil (h : Live 0 w t) : t.kids = [] := h.2

/-- split: the whole. -/
theorem lift_split (h : Own (n + 1) w t) (hx : WfX n t (fun j => j = i)) (hc : t.kids[i]? = some c) (h5 : c.es.length = 5) (hs : SplitV w t c i w') : Again n w t w' (t.es.length + 1) (t.es.length + 1) := by
  obtain ⟨s', k', sl, kl, R, m, hm, hRe, hRk, hP⟩ := hs
  have hi := (List.getElem?_eq_some_iff.1 hc).1
  have hx1 := hx.1
  have hcw := (hx.2 i c hc).1
  have hcl := h.1.2.2 c (List.mem_of_getElem? hc)
  have hk : t.kids = t.kids.take i ++ [c] ++ t.kids.drop (i + 1) := by
    conv => lhs; rw [split_at hc]
    simp
  obtain ⟨c', hc'⟩ : ∃ c' : Nd, c' = { c with s := sl, k := kl, es := c.es.take 2, kids := c.kids.take 3 } := ⟨_, rfl⟩
  rw [← hc'] at hP
  have hce : c'.es = c.es.take 2 := by rw [hc']
  have hck : c'.kids = c.kids.take 3 := by rw [hc']
  have hcb : c'.b = c.b := by rw [hc']
  have htk : t.kids.take (i + 1) = t.kids.take i ++ [c] := by
    rw [List.take_add_one, hc]; rfl
  have hev := evo_regroup (mid := [c]) (mid' := [c', R]) (A := t.kids.take i) (D := t.kids.drop (i + 1)) h hk hP rfl (by
      show List.map Nd.b _ = List.map Nd.b (t.kids.take (i + 1) ++ R :: t.kids.drop (i + 1))
      rw [htk]; simp [hcb]) (by
      show _ = (t.es.take i ++ m :: t.es.drop i).length + 1
      simp; omega) (by
      show (c'.kids ++ (R.kids ++ [])) = c.kids ++ []
      rw [hck, hRk, List.append_nil, List.append_nil, List.take_append_drop]) (fun hn x hxm => by
      have h6 := live_len hcl hn
      rcases List.mem_cons.1 hxm with rfl | hxm
      · rw [hck, hce]; simp; omega
      · rw [List.mem_singleton.1 hxm, hRk, hRe]; simp; omega)
  have hsz : ∀ x, x ∈ t.kids.take i ∨ x ∈ t.kids.drop (i + 1) → WfN n x ∧ 2 ≤ x.es.length ∧ x.es.length ≤ 4 := fun x hxm => by
    rcases hxm with hxm | hxm
    · obtain ⟨j, hj, hxj⟩ := take_get hxm
      have := hx.2 j x hxj
      exact ⟨this.1, this.2 (show ¬ j = i by omega)⟩
    · obtain ⟨j, hj, hxj⟩ := drop_get hxm
      have := hx.2 j x hxj
      exact ⟨this.1, this.2 (show ¬ j = i by omega)⟩
  have hwc : WfN n c' := wfN_mk (fun h0 => by rw [hck]; subst h0; rw [show c.kids = [] from hcw]; rfl) (fun q hq => by
    subst hq
    refine ⟨by rw [hck, hce]; have := hcw.1; simp; omega, fun k hk => ?_⟩
    rw [hck] at hk
    exact hcw.2 k (List.mem_of_mem_take hk))
  have hwR : WfN n R := wfN_mk (fun h0 => by rw [hRk]; subst h0; rw [show c.kids = [] from hcw]; rfl) (fun q hq => by
    subst hq
    refine ⟨by rw [hRk, hRe]; have := hcw.1; simp; omega, fun k hk => ?_⟩
    rw [hRk] at hk
    exact hcw.2 k (List.mem_of_mem_drop hk))
  have hflc : flatN n c = flatN n c' ++ m :: flatN n R := by
    have e1 : c.es = c.es.take 2 ++ m :: c.es.drop 3 := split_at hm
    cases n with
    | zero =>
      show c.es = c'.es ++ m :: R.es
      rw [hce, hRe]; exact e1
    | succ n =>
      show inter c.es (c.kids.map (flatN n)) = inter c'.es (c'.kids.map (flatN n)) ++ m :: inter R.es (R.kids.map (flatN n))
      rw [hce, hck, hRe, hRk]
      have h6 := hcw.1
      have e2 := inter_app (c.es.take 2) ((c.kids.take 3).map (flatN n)) m (c.es.drop 3) ((c.kids.drop 3).map (flatN n)) (by simp; omega)
      rw [← e1, ← List.map_append, List.take_append_drop] at e2
      exact e2
  refine ⟨_, hev, ⟨?_, fun x hxm => ?_⟩, ?_, ?_, ?_⟩
  · show _ = (t.es.take i ++ m :: t.es.drop i).length + 1
    simp; omega
  · have hxm : x ∈ t.kids.take i ++ [c', R] ++ t.kids.drop (i + 1) := hxm
    simp only [List.mem_append, List.mem_cons, List.not_mem_nil, or_false] at hxm
    rcases hxm with (hxm | rfl | rfl) | hxm
    · exact hsz x (.inl hxm)
    · exact ⟨hwc, by rw [hce]; simp; omega, by rw [hce]; simp; omega⟩
    · exact ⟨hwR, by rw [hRe]; simp; omega, by rw [hRe]; simp; omega⟩
    · exact hsz x (.inr hxm)
  · show inter (t.es.take i ++ m :: t.es.drop i) ((t.kids.take i ++ [c', R] ++ t.kids.drop (i + 1)).map (flatN n)) = inter t.es (t.kids.map (flatN n))
    have e1 := inter_split (es := t.es) (ks := t.kids.map (flatN n)) (i := i) (a := flatN n c') (b := flatN n R) (m := m) (by rw [List.length_map]; exact hx1) (by rw [List.length_map]; exact hi)
    have e2 : (t.kids.take i ++ [c', R] ++ t.kids.drop (i + 1)).map (flatN n) = (t.kids.map (flatN n)).take i ++ flatN n c' :: flatN n R :: (t.kids.map (flatN n)).drop (i + 1) := by
      simp [List.map_take, List.map_drop]
    rw [e2, e1, ← hflc]
    exact (inter_kid (by rw [List.length_map]; exact hx1) (by rw [List.getElem?_map, hc]; rfl)).symm
  · show _ ≤ (t.es.take i ++ m :: t.es.drop i).length
    simp; omega
  · show (t.es.take i ++ m :: t.es.drop i).length ≤ _
    simp; omega

/-- two kids beside one another, and the entry between them, become others. -/
theorem lift_two {s k : Value} {l' r' : Nd} {m x : En} (h : Own (n + 1) w t) (hx : WfX n t (fun j => j = i ∨ j = i + 1)) (hl : t.kids[i]? = some l) (hr : t.kids[i + 1]? = some r) (hm : t.es[i]? = some m)
    (hP : Stp w [t, l, r] w' [{ t with s := s, k := k, es := t.es.set i x }, l', r']) (hlb : l'.b = l.b) (hrb : r'.b = r.b) (hf : l'.kids ++ r'.kids = l.kids ++ r.kids) (hwl : WfN n l') (hwr : WfN n r') (h1 : 2 ≤ l'.es.length ∧ l'.es.length ≤ 4) (h2 : 2 ≤ r'.es.length ∧ r'.es.length ≤ 4)
    (hfl : flatN n l' ++ x :: flatN n r' = flatN n l ++ m :: flatN n r) : Again n w t w' t.es.length t.es.length := by
  have hi := (List.getElem?_eq_some_iff.1 hr).1
  have hx1 := hx.1
  have hk := two_at hl hr
  have hev := evo_regroup (mid := [l, r]) (mid' := [l', r']) (A := t.kids.take i) (D := t.kids.drop (i + 2)) h hk hP rfl (by
      show _ = List.map Nd.b t.kids
      conv => rhs; rw [hk]
      simp [hlb, hrb]) (by
      show _ = (t.es.set i x).length + 1
      simp; omega) (by
      show l'.kids ++ (r'.kids ++ []) = l.kids ++ (r.kids ++ [])
      rw [List.append_nil, List.append_nil]; exact hf) (fun hn y hy => by
      obtain ⟨q, rfl⟩ : ∃ q, n = q + 1 := ⟨n - 1, by omega⟩
      rcases List.mem_cons.1 hy with rfl | hy
      · exact hwl.1
      · rw [List.mem_singleton.1 hy]; exact hwr.1)
  have hsz : ∀ y, y ∈ t.kids.take i ∨ y ∈ t.kids.drop (i + 2) → WfN n y ∧ 2 ≤ y.es.length ∧ y.es.length ≤ 4 := fun y hy => by
    rcases hy with hy | hy
    · obtain ⟨j, hj, hyj⟩ := take_get hy
      have := hx.2 j y hyj
      exact ⟨this.1, this.2 (show ¬ (j = i ∨ j = i + 1) by omega)⟩
    · obtain ⟨j, hj, hyj⟩ := drop_get hy
      have := hx.2 j y hyj
      exact ⟨this.1, this.2 (show ¬ (j = i ∨ j = i + 1) by omega)⟩
  refine ⟨_, hev, ⟨?_, fun y hy => ?_⟩, ?_, ?_, ?_⟩
  · show _ = (t.es.set i x).length + 1
    simp; omega
  · have hy : y ∈ t.kids.take i ++ [l', r'] ++ t.kids.drop (i + 2) := hy
    simp only [List.mem_append, List.mem_cons, List.not_mem_nil, or_false] at hy
    rcases hy with (hy | rfl | rfl) | hy
    · exact hsz y (.inl hy)
    · exact ⟨hwl, h1⟩
    · exact ⟨hwr, h2⟩
    · exact hsz y (.inr hy)
  · show inter (t.es.set i x) ((t.kids.take i ++ [l', r'] ++ t.kids.drop (i + 2)).map (flatN n)) = inter t.es (t.kids.map (flatN n))
    have hlen : (t.kids.map (flatN n)).length = t.es.length + 1 := by rw [List.length_map]; exact hx1
    have hil : i < t.es.length := by omega
    have e1 := inter_turn (es := t.es) (ks := t.kids.map (flatN n)) (i := i) (a := flatN n l') (b := flatN n r') (m := x) hlen hil
    have e2 : (t.kids.take i ++ [l', r'] ++ t.kids.drop (i + 2)).map (flatN n) = (t.kids.map (flatN n)).take i ++ flatN n l' :: flatN n r' :: (t.kids.map (flatN n)).drop (i + 2) := by
      simp [List.map_take, List.map_drop]
    have e3 := inter_turn (es := t.es) (ks := t.kids.map (flatN n)) (i := i) (a := flatN n l) (b := flatN n r) (m := m) hlen hil
    have e4 : t.kids.map (flatN n) = (t.kids.map (flatN n)).take i ++ flatN n l :: flatN n r :: (t.kids.map (flatN n)).drop (i + 2) := by
      conv => lhs; rw [hk]
      simp [List.map_take, List.map_drop]
    rw [e2, set_at x hm, e1, hfl, ← e3, ← e4, ← split_at hm]
  · show _ ≤ (t.es.set i x).length
    simp
  · show (t.es.set i x).length ≤ _
    simp
theorem lift_right (h : Own (n + 1) w t) (hx : WfX n t (fun j => j = i ∨ j = i + 1)) (hl : t.kids[i]? = some l) (hr : t.kids[i + 1]? = some r) (h1 : 3 ≤ l.es.length ∧ l.es.length ≤ 4) (h2 : r.es.length = 1) (hs : TurnR w t l r i w') : Again n w t w' t.es.length t.es.length := by
  obtain ⟨sl, kl, sr, kr, m, x, le, lk, rk, hm, hle, hks, hP⟩ := hs
  have hlw := (hx.2 i l hl).1
  have hrw := (hx.2 (i + 1) r hr).1
  have hlen : l.es.length = le.length + 1 := by rw [hle]; simp
  refine lift_two h hx hl hr hm hP rfl rfl ?_ ?_ ?_ ?_ ?_ ?_
  · show lk ++ rk = l.kids ++ r.kids
    rcases hks with ⟨e1, e2, e3, e4⟩ | ⟨y, e1, e2⟩
    · rw [e1, e2, e3, e4]
    · rw [e1, e2]; simp
  · refine wfN_mk (fun h0 => ?_) fun q hq => ?_
    · subst h0
      have e : l.kids = [] := hlw
      show lk = []
      rcases hks with ⟨e1, e2, e3, e4⟩ | ⟨y, e1, e2⟩
      · exact e3
      · rw [e] at e1; simp at e1
    · subst hq
      rcases hks with ⟨e1, -⟩ | ⟨y, e1, e2⟩
      · have := hlw.1; rw [e1] at this; simp at this
      · refine ⟨?_, fun k hk => hlw.2 k (by rw [e1]; exact List.mem_append_left _ hk)⟩
        show lk.length = le.length + 1
        have := hlw.1
        rw [e1, hlen] at this
        simpa using this
  · refine wfN_mk (fun h0 => ?_) fun q hq => ?_
    · subst h0
      have e : l.kids = [] := hlw
      have e' : r.kids = [] := hrw
      show rk = []
      rcases hks with ⟨e1, e2, e3, e4⟩ | ⟨y, e1, e2⟩
      · exact e4
      · rw [e] at e1; simp at e1
    · subst hq
      rcases hks with ⟨e1, -⟩ | ⟨y, e1, e2⟩
      · have := hlw.1; rw [e1] at this; simp at this
      · refine ⟨?_, fun k hk => ?_⟩
        · show rk.length = (m :: r.es).length + 1
          rw [e2, List.length_cons, List.length_cons, hrw.1]
        · have hk : k ∈ rk := hk
          rw [e2] at hk
          rcases List.mem_cons.1 hk with rfl | hk
          · exact hlw.2 _ (by rw [e1]; simp)
          · exact hrw.2 k hk
  · show 2 ≤ le.length ∧ le.length ≤ 4
    omega
  · show 2 ≤ (m :: r.es).length ∧ (m :: r.es).length ≤ 4
    rw [List.length_cons]; omega
  · cases n with
    | zero =>
      show le ++ x :: m :: r.es = l.es ++ m :: r.es
      rw [hle]; simp
    | succ n =>
      rcases hks with ⟨e1, -⟩ | ⟨y, e1, e2⟩
      · have := hlw.1; rw [e1] at this; simp at this
      · show inter le (lk.map (flatN n)) ++ x :: inter (m :: r.es) (rk.map (flatN n)) = inter l.es (l.kids.map (flatN n)) ++ m :: inter r.es (r.kids.map (flatN n))
        have hkl : lk.length = le.length + 1 := by have := hlw.1; rw [e1, hlen] at this; simpa using this
        have e3 := inter_app le (lk.map (flatN n)) x [] [flatN n y] (by rw [List.length_map]; exact hkl)
        have e4 : [y].map (flatN n) = [flatN n y] := rfl
        rw [hle, e1, e2, List.map_append, e4, e3, inter_one, List.map_cons]
        simp [inter]
theorem lift_left (h : Own (n + 1) w t) (hx : WfX n t (fun j => j = i ∨ j = i + 1)) (hl : t.kids[i]? = some l) (hr : t.kids[i + 1]? = some r) (h1 : l.es.length = 1) (h2 : 3 ≤ r.es.length ∧ r.es.length ≤ 4) (hs : TurnL w t l r i w') : Again n w t w' t.es.length t.es.length := by
  obtain ⟨sl, kl, sr, kr, m, x, re, lk, rk, hm, hre, hks, hP⟩ := hs
  have hlw := (hx.2 i l hl).1
  have hrw := (hx.2 (i + 1) r hr).1
  have hlen : r.es.length = re.length + 1 := by rw [hre]; simp
  refine lift_two h hx hl hr hm hP rfl rfl ?_ ?_ ?_ ?_ ?_ ?_
  · show lk ++ rk = l.kids ++ r.kids
    rcases hks with ⟨e1, e2, e3, e4⟩ | ⟨y, e1, e2⟩
    · rw [e1, e2, e3, e4]
    · rw [e1, e2]; simp
  · refine wfN_mk (fun h0 => ?_) fun q hq => ?_
    · subst h0
      have e : l.kids = [] := hlw
      have e' : r.kids = [] := hrw
      show lk = []
      rcases hks with ⟨e1, e2, e3, e4⟩ | ⟨y, e1, e2⟩
      · exact e3
      · rw [e'] at e1; simp at e1
    · subst hq
      rcases hks with ⟨e1, -⟩ | ⟨y, e1, e2⟩
      · have := hlw.1; rw [e1] at this; simp at this
      · refine ⟨?_, fun k hk => ?_⟩
        · show lk.length = (l.es ++ [m]).length + 1
          rw [e2, List.length_append, List.length_append, hlw.1]; rfl
        · have hk : k ∈ lk := hk
          rw [e2] at hk
          rcases List.mem_append.1 hk with hk | hk
          · exact hlw.2 k hk
          · rw [List.mem_singleton.1 hk]; exact hrw.2 _ (by rw [e1]; simp)
  · refine wfN_mk (fun h0 => ?_) fun q hq => ?_
    · subst h0
      have e' : r.kids = [] := hrw
      show rk = []
      rcases hks with ⟨e1, e2, e3, e4⟩ | ⟨y, e1, e2⟩
      · exact e4
      · rw [e'] at e1; simp at e1
    · subst hq
      rcases hks with ⟨e1, -⟩ | ⟨y, e1, e2⟩
      · have := hlw.1; rw [e1] at this; simp at this
      · refine ⟨?_, fun k hk => hrw.2 k (by rw [e1]; exact List.mem_cons_of_mem _ hk)⟩
        show rk.length = re.length + 1
        have := hrw.1
        rw [e1, hlen] at this
        simpa using this
  · show 2 ≤ (l.es ++ [m]).length ∧ (l.es ++ [m]).length ≤ 4
    rw [List.length_append]; simp; omega
  · show 2 ≤ re.length ∧ re.length ≤ 4
    omega
  · cases n with
    | zero =>
      show (l.es ++ [m]) ++ x :: re = l.es ++ m :: r.es
      rw [hre]; simp
    | succ n =>
      rcases hks with ⟨e1, -⟩ | ⟨y, e1, e2⟩
      · have := hlw.1; rw [e1] at this; simp at this
      · show inter (l.es ++ [m]) (lk.map (flatN n)) ++ x :: inter re (rk.map (flatN n)) = inter l.es (l.kids.map (flatN n)) ++ m :: inter r.es (r.kids.map (flatN n))
        have e3 := inter_app l.es (l.kids.map (flatN n)) m [] [flatN n y] (by rw [List.length_map]; exact hlw.1)
        have e4 : [y].map (flatN n) = [flatN n y] := rfl
        rw [hre, e1, e2, List.map_append, e4, e3, inter_one, List.map_cons]
        simp [inter]
theorem lift_join (h : Own (n + 1) w t) (hx : WfX n t (fun j => j = i ∨ j = i + 1)) (hl : t.kids[i]? = some l) (hr : t.kids[i + 1]? = some r) (_h1 : 1 ≤ l.es.length) (_h2 : 1 ≤ r.es.length) (h3 : l.es.length + r.es.length = 3) (hs : JoinV w t l r i w') : Again n w t w' (t.es.length - 1) t.es.length := by
  obtain ⟨s, k, sl, kl, m, hm, hP⟩ := hs
  have hlw := (hx.2 i l hl).1
  have hrw := (hx.2 (i + 1) r hr).1
  have hi := (List.getElem?_eq_some_iff.1 hr).1
  have hx1 := hx.1
  have hk := two_at hl hr
  obtain ⟨c, hc⟩ : ∃ c : Nd, c = { l with s := sl, k := kl, es := l.es ++ [m] ++ r.es, kids := l.kids ++ r.kids } := ⟨_, rfl⟩
  rw [← hc] at hP
  have hce : c.es = l.es ++ [m] ++ r.es := by rw [hc]
  have hck : c.kids = l.kids ++ r.kids := by rw [hc]
  have hcb : c.b = l.b := by rw [hc]
  have htk : t.kids.take (i + 1) = t.kids.take i ++ [l] := by rw [List.take_add_one, hl]; rfl
  have hwc : WfN n c := wfN_mk (fun h0 => by
      subst h0
      rw [hck, show l.kids = [] from hlw, show r.kids = [] from hrw]; rfl) fun q hq => by
      subst hq
      refine ⟨?_, fun k hk => ?_⟩
      · have := hlw.1
        have := hrw.1
        rw [hck, hce]; simp; omega
      · rw [hck] at hk
        rcases List.mem_append.1 hk with hk | hk
        · exact hlw.2 k hk
        · exact hrw.2 k hk
  have hev := evo_regroup (mid := [l, r]) (mid' := [c]) (A := t.kids.take i) (D := t.kids.drop (i + 2)) h hk hP rfl (by
      show _ = List.map Nd.b (t.kids.take (i + 1) ++ t.kids.drop (i + 1 + 1))
      rw [htk]; simp [hcb]) (by
      show _ = (t.es.take i ++ t.es.drop (i + 1)).length + 1
      simp; omega) (by
      show c.kids ++ [] = l.kids ++ (r.kids ++ [])
      rw [List.append_nil, List.append_nil]; exact hck) (fun hn y hy => by
      obtain ⟨q, rfl⟩ : ∃ q, n = q + 1 := ⟨n - 1, by omega⟩
      rw [List.mem_singleton.1 hy]; exact hwc.1)
  have hsz : ∀ y, y ∈ t.kids.take i ∨ y ∈ t.kids.drop (i + 2) → WfN n y ∧ 2 ≤ y.es.length ∧ y.es.length ≤ 4 := fun y hy => by
    rcases hy with hy | hy
    · obtain ⟨j, hj, hyj⟩ := take_get hy
      have := hx.2 j y hyj
      exact ⟨this.1, this.2 (show ¬ (j = i ∨ j = i + 1) by omega)⟩
    · obtain ⟨j, hj, hyj⟩ := drop_get hy
      have := hx.2 j y hyj
      exact ⟨this.1, this.2 (show ¬ (j = i ∨ j = i + 1) by omega)⟩
  have hflc : flatN n c = flatN n l ++ m :: flatN n r := by
    cases n with
    | zero =>
      show c.es = l.es ++ m :: r.es
      rw [hce]; simp
    | succ n =>
      show inter c.es (c.kids.map (flatN n)) = inter l.es (l.kids.map (flatN n)) ++ m :: inter r.es (r.kids.map (flatN n))
      have e3 := inter_app l.es (l.kids.map (flatN n)) m r.es (r.kids.map (flatN n)) (by rw [List.length_map]; exact hlw.1)
      rw [hce, hck, List.map_append, ← e3]
      simp
  have hcl : c.es.length = 4 := by rw [hce]; simp; omega
  refine ⟨_, hev, ⟨?_, fun y hy => ?_⟩, ?_, ?_, ?_⟩
  · show _ = (t.es.take i ++ t.es.drop (i + 1)).length + 1
    simp; omega
  · have hy : y ∈ t.kids.take i ++ [c] ++ t.kids.drop (i + 2) := hy
    simp only [List.mem_append, List.mem_cons, List.not_mem_nil, or_false] at hy
    rcases hy with (hy | rfl) | hy
    · exact hsz y (.inl hy)
    · exact ⟨hwc, by omega, by omega⟩
    · exact hsz y (.inr hy)
  · show inter (t.es.take i ++ t.es.drop (i + 1)) ((t.kids.take i ++ [c] ++ t.kids.drop (i + 2)).map (flatN n)) = inter t.es (t.kids.map (flatN n))
    have hlen : (t.kids.map (flatN n)).length = t.es.length + 1 := by rw [List.length_map]; exact hx1
    have hil : i < t.es.length := by omega
    have e1 := inter_join (es := t.es) (ks := t.kids.map (flatN n)) (i := i) (c := flatN n c) hlen hil
    have e2 : (t.kids.take i ++ [c] ++ t.kids.drop (i + 2)).map (flatN n) = (t.kids.map (flatN n)).take i ++ flatN n c :: (t.kids.map (flatN n)).drop (i + 2) := by
      simp [List.map_take, List.map_drop]
    have e3 := inter_turn (es := t.es) (ks := t.kids.map (flatN n)) (i := i) (a := flatN n l) (b := flatN n r) (m := m) hlen hil
    have e4 : t.kids.map (flatN n) = (t.kids.map (flatN n)).take i ++ flatN n l :: flatN n r :: (t.kids.map (flatN n)).drop (i + 2) := by
      conv => lhs; rw [hk]
      simp [List.map_take, List.map_drop]
    rw [e2, e1, hflc, ← e3, ← e4, ← split_at hm]
  · show _ ≤ (t.es.take i ++ t.es.drop (i + 1)).length
    simp; omega
  · show (t.es.take i ++ t.es.drop (i + 1)).length ≤ _
    simp; omega
end
end Go.Proofs.Ytoaekmighinmhaa

namespace Go.Proofs.Ytoaekmighinmhaa
open Go.RowKit

set_option maxRecDepth 100000 in
set_option maxHeartbeats 8000000 in
theorem split_leaf (t c : Nd) (i : Nat) (w : World) (hS : St w [t, c]) (hc : t.kids[i]? = some c) (h5 : c.es.length = 5) (hk : c.kids = []) (hi : i ≤ t.es.length) (hn : t.es.length ≤ 1000) (hn2 : t.kids.length ≤ 1000) :
    Calls Try.prog 35 #[.pointer (some ⟨t.b, 0, none⟩), .int .i64 i] w fun e w' => e = .returned (.tuple #[]) ∧ SplitV w t c i w' := by
  have ht0 := hS.sh t (by simp)
  have hc0 := hS.sh c (by simp)
  have h1t := hS.sc_one (t := t) (by simp)
  have h1c := hS.sc_one (t := c) (by simp)
  obtain ⟨B, d, -, hd1, hd2, c1, ck, -⟩ := ht0.kidv hc
  obtain ⟨la, lc, -, -, -, -, l0, -, -⟩ := hc0.view
  rw [h5] at l0
  have hik := (List.getElem?_eq_some_iff.1 hc).1
  obtain ⟨m, hm⟩ : ∃ m, c.es[2]? = some m := ⟨_, List.getElem?_eq_getElem (by omega)⟩
  have hcut := cut_anyE c w hc0 h1c h5
  have zi : (i : Int) < (t.kids.length : Int) := by omega
  obtain ⟨kl, hkl⟩ : ∃ kl, t.kids.length = kl := ⟨_, rfl⟩
  obtain ⟨el, hel⟩ : ∃ el, t.es.length = el := ⟨_, rfl⟩
  have HZ : Hid (wrap64 ((i : Int) + 1) = (i : Int) + 1) := by unfold Hid wrap64; omega
  rw [hkl] at c1 hd1 zi
  have HH := (show Hid _ from And.intro hS (And.intro hc (And.intro h5 (And.intro hk (And.intro hi (And.intro hn (And.intro hn2 (And.intro hkl (And.intro hel (And.intro hik hm))))))))))
  clear hS ht0 hc0 hc h5 hk hi hn hn2 hkl hel hik hm h1t h1c
  go_enter Try.func35, Try.ntmps35
  go_wp2_with fail
  refine hcut.mono ?_
  rintro e w1 ⟨s1, g, cap, rfl, hE1, ho1, hr1, hg1, hg2⟩
  obtain ⟨hS, hc, h5, hk, hi, hn, hn2, hkl, hel, hik, hm⟩ := HH.out
  have hP1 : Stp w [t, c] w1 [t, { c with s := s1, es := c.es.take 3 }] := St.at (A := [t]) (D := []) hS hE1
  obtain ⟨Wb, hWb⟩ : ∃ Wb, w1.alloc (.cells #[.slice (some ⟨g, 0, none⟩) 2 cap, .slice none 0 0] 69) = Wb := ⟨_, rfl⟩
  have hb1 : Below w1.heap.size w1 Wb := by rw [← hWb]; exact (Below.refl _ _).alloc (Nat.le_refl _) _
  have hsb : Wb.heap.size = w1.heap.size + 1 := by rw [← hWb]; simp
  have hd3 : (c.es.drop 3).length = 2 := by rw [List.length_drop]; omega
  have hsz1 := hE1.chg.size
  obtain ⟨R0, hR0⟩ : ∃ R0 : Nd, R0 = ⟨w1.heap.size, .slice (some ⟨g, 0, none⟩) 2 cap, .slice none 0 0, c.es.drop 3, []⟩ := ⟨_, rfl⟩
  have hRs : Sh Wb R0 := by rw [← hWb, hR0]; exact new_node (by rw [hd3]; exact hr1)
  have hRc : ∀ a, sc a R0 = (if a = w1.heap.size then 1 else 0) + (if a = g then 1 else 0) := fun a => by
    rw [hR0]; unfold sc; rw [vc_at, vc_nil]; rfl
  have hold : ∀ a, w.heap.size ≤ a → sc a t = 0 ∧ sc a c = 0 := fun a ha => by
    have h0 : ss a [t, c] = 0 := Classical.byContradiction fun hne => by have := hS.lt hne; omega
    rw [ss_two] at h0
    omega
  have hP2 : Stp w [t, c] Wb [t, { c with s := s1, es := c.es.take 3 }, R0] := hP1.new (fun a ha => by
      rw [ss_two, sc_putS ho1]; have := hold a ha; omega) hRs hb1 (fun a ha => by
      rw [hRc] at ha
      by_cases e1 : a = w1.heap.size
      · omega
      · by_cases e2 : a = g
        · omega
        · rw [if_neg e1, if_neg e2] at ha; exact absurd rfl ha) (fun a => by
      rw [hRc]
      by_cases e1 : a = w1.heap.size
      · rw [if_pos e1, if_neg (by omega)]; omega
      · rw [if_neg e1]; split <;> omega)
  obtain ⟨cE, hcE⟩ : ∃ cE : Nd, cE = { c with s := s1, es := c.es.take 3 } := ⟨_, rfl⟩
  rw [← hcE] at hP2
  have hkids : cE.kids = c.kids := by rw [hcE]
  have hcb : cE.b = c.b := by rw [hcE]
  have hces : cE.es = c.es.take 3 := by rw [hcE]
  have hscE : ∀ a, sc a cE = sc a c := fun a => by rw [hcE]; exact sc_putS ho1
  have hRb : R0.b = w1.heap.size := by rw [hR0]
  have hlf := leaf_any Wb (hP2.st.sh cE (by simp))
  rw [hcb] at hlf
  have G1 := (show Hid _ from And.intro hP2 (And.intro hkids (And.intro hcb (And.intro hces (And.intro hscE (And.intro hRb (And.intro hRc (And.intro hsb (And.intro hold (And.intro hcE (And.intro hR0 (And.intro hg1 (And.intro hg2 hsz1)))))))))))))
  rw [hkids, HH.out.2.2.2.1, show ([] : List Nd).length = 0 from rfl] at hlf
  clear hS hc h5 hk hi hn hn2 hkl hel hik hm hP1 hb1 hsb hsz1 hRs hRc hold hP2 hkids hcb hces hscE hRb hcE hR0 hE1 ho1 hr1 hg1 hg2 hd3 l0 c1 ck hcut
  go_wp2_with fail
  refine hlf.mono ?_
  rintro e w2 ⟨rfl, rfl⟩
  clear hlf
  go_wp2_with fail
  obtain ⟨hS, hc, h5, hk, hi, hn, hn2, hkl, hel, hik, hm⟩ := HH.out
  obtain ⟨hP2, hkids, hcb, hces, hscE, hRb, hRc, hsb, hold, hcE, hR0, hg1, hg2, hsz1⟩ := G1.out
  have hP2d : Stp w [t, c] w2.drew [t, cE, R0] := hP2.trans (Stp.below hP2.st (Below.refl _ _).drew)
  obtain ⟨sa, sc0, ka, kd, es0, ek0, t0, t1, tf⟩ := (hP2.st.sh t (by simp)).view
  rw [hel] at es0 t0
  have htb : t.b < w2.heap.size := lt_of_cell t0
  have htake := takeE_any cE 2 m w2.drew (hP2d.st.sh _ (by simp)) (hP2d.st.sc_one (by simp)) (by rw [hces]; rw [List.getElem?_take, if_pos (by omega)]; exact hm) (by rw [hces, List.length_take]; omega)
  obtain ⟨mk, mi⟩ := m
  rw [hcb] at htake
  have P0 := fun (w' : World) (h : w'.heap[t.b]? = w2.heap[t.b]?) => (World.cell?_of_block (a := ⟨t.b, 0, none⟩) h).trans t0
  have htc : sc t.b cE = 0 := by have h2 := hP2.st.one t.b; rw [ss_three] at h2; have := sc_b t; omega
  have G2 := (show Hid _ from And.intro hP2d (And.intro es0 (And.intro hcb (And.intro hces htc))))
  have hbc : t.b ≠ c.b := fun e => by have := sc_b cE; rw [hcb, ← e] at this; omega
  clear hS hc h5 hk hi hn hn2 hkl hik hm hP2 hP2d es0 ek0 t0 t1 hcb hces htc hkids hscE hRb hRc hsb hold hcE hR0 hg1 hg2 hsz1
  have h0 : (fun w' : World => w'.heap[t.b]? = w2.heap[t.b]?) w2.drew := rfl
  refine wp_region_snoc_held2 (S := fun w' => w'.heap[t.b]? = w2.heap[t.b]?) (head := #[_, _, _, _, _, _, _, _, _, _, _, _, _, _]) (last := ⟨_, _, _, _, _, _⟩) mixed (by kernel_rfl) rfl ?_
  refine wpAnyH_take (i := 0) (oi := ⟨_, _, _, _, _, _⟩) (v := ?v1) rfl (by kernel_rfl) (by kernel_rfl) (by kernel_rfl) (fun _ _ _ h => h) (Or.inl ⟨by rfl, ?hy1⟩) h0 ?rest1
  case hy1 => (intro w hSw; (try dsimp only at hSw); go_simp; try with_reducible rfl)
  simp only [Act.put, List.setIfInBounds_toArray, List.set_cons_zero, List.set_cons_succ]
  refine wpAnyH_take (i := 1) (oi := ⟨_, _, _, _, _, _⟩) (v := ?v2) rfl (by kernel_rfl) (by kernel_rfl) (by kernel_rfl) (fun _ _ _ h => h) (Or.inl ⟨by rfl, ?hy2⟩) h0 ?rest2
  case hy2 => (intro w hSw; (try dsimp only at hSw); go_simp; try with_reducible rfl)
  simp only [Act.put, List.setIfInBounds_toArray, List.set_cons_zero, List.set_cons_succ]
  refine wpAnyH_take (i := 2) (oi := ⟨_, _, _, _, _, _⟩) (v := ?v3) rfl (by kernel_rfl) (by kernel_rfl) (by kernel_rfl) (fun _ _ _ h => h) (Or.inl ⟨by rfl, ?hy3⟩) h0 ?rest3
  case hy3 => (intro w hSw; (try dsimp only at hSw); go_simp; try with_reducible rfl)
  simp only [Act.put, List.setIfInBounds_toArray, List.set_cons_zero, List.set_cons_succ]
  refine wpAnyH_take (i := 3) (oi := ⟨_, _, _, _, _, _⟩) (v := ?v4) rfl (by kernel_rfl) (by kernel_rfl) (by kernel_rfl) (fun _ _ _ h => h) (Or.inl ⟨by rfl, ?hy4⟩) h0 ?rest4
  case hy4 => (intro w hSw; (try dsimp only at hSw); go_simp; try with_reducible rfl)
  simp only [Act.put, List.setIfInBounds_toArray, List.set_cons_zero, List.set_cons_succ]
  refine wpAnyH_take (i := 4) (oi := ⟨_, _, _, _, _, _⟩) (v := ?v5) rfl (by kernel_rfl) (by kernel_rfl) (by kernel_rfl) (fun _ _ _ h => h) (Or.inl ⟨by rfl, ?hy5⟩) h0 ?rest5
  case hy5 => (intro w hSw; (try dsimp only at hSw); go_simp; try with_reducible rfl)
  simp only [Act.put, List.setIfInBounds_toArray, List.set_cons_zero, List.set_cons_succ]
  refine wpAnyH_take (i := 5) (oi := ⟨_, _, _, _, _, _⟩) (v := ?v6) rfl (by kernel_rfl) (by kernel_rfl) (by kernel_rfl) (fun _ _ _ h => h) (Or.inl ⟨by rfl, ?hy6⟩) h0 ?rest6
  case hy6 => (intro w hSw; (try dsimp only at hSw); go_simp; try with_reducible rfl)
  simp only [Act.put, List.setIfInBounds_toArray, List.set_cons_zero, List.set_cons_succ]
  refine wpAnyH_take (i := 6) (oi := ⟨_, _, _, _, _, _⟩) (v := ?v7) rfl (by kernel_rfl) (by kernel_rfl) (by kernel_rfl) (fun _ _ _ h => h) (Or.inl ⟨by rfl, ?hy7⟩) h0 ?rest7
  case hy7 => (intro w hSw; (try dsimp only at hSw); go_simp; try with_reducible rfl)
  simp only [Act.put, List.setIfInBounds_toArray, List.set_cons_zero, List.set_cons_succ]
  refine wpAnyH_take (i := 7) (oi := ⟨_, _, _, _, _, _⟩) (v := ?v8) rfl (by kernel_rfl) (by kernel_rfl) (by kernel_rfl) (fun _ _ _ h => h) (Or.inl ⟨by rfl, ?hy8⟩) h0 ?rest8
  case hy8 => (intro w hSw; (try dsimp only at hSw); go_simp; try with_reducible rfl)
  simp only [Act.put, List.setIfInBounds_toArray, List.set_cons_zero, List.set_cons_succ]
  refine wpAnyH_take (i := 8) (oi := ⟨_, _, _, _, _, _⟩) (v := ?v9) rfl (by kernel_rfl) (by kernel_rfl) (by kernel_rfl) (fun _ _ _ h => h) (Or.inl ⟨by rfl, ?hy9⟩) h0 ?rest9
  case hy9 => (intro w hSw; (try dsimp only at hSw); go_simp; try with_reducible rfl)
  simp only [Act.put, List.setIfInBounds_toArray, List.set_cons_zero, List.set_cons_succ]
  refine wpAnyH_ready (rs := [9]) (by kernel_rfl) (by simp) ?_
  refine AllReadyH.cons (o := ⟨_, _, _, _, _, _⟩) rfl (fun K hK => ?_) AllReadyH.nil
  go_simp
  refine htake.mono ?_
  rintro e w4 ⟨rfl, s4, hE4, ho4⟩
  obtain ⟨hP2d, es0, hcb, hces, htc⟩ := G2.out
  have h4 : w4.heap[t.b]? = w2.heap[t.b]? := hE4.chg.block t.b htb htc
  obtain ⟨c4, hc4⟩ : ∃ c4 : Nd, c4 = { b := c.b, s := s4, k := cE.k, es := cE.es.take 2 ++ cE.es.drop (2 + 1), kids := cE.kids } := ⟨_, rfl⟩
  rw [← hc4] at hE4
  have hP4 : Stp w [t, c] w4 [t, c4, R0] := hP2d.trans (St.at (A := [t]) (D := [R0]) hP2d.st hE4)
  have htb4 : t.b < w4.heap.size := Nat.lt_of_lt_of_le htb hE4.chg.size
  have G3 := (show Hid _ from And.intro hP4 hc4)
  clear hP2d hcb hces htc hE4 ho4 hc4 htake
  refine hK.out _ _ h4 (fun hHeld => ?_)
  clear hK K hHeld
  refine wpAnyH_ready (rs := [10]) (by kernel_rfl) (by simp) ?_
  refine AllReadyH.cons (o := ⟨_, _, _, _, _, _⟩) rfl (fun K hK => ?_) AllReadyH.nil
  go_simp
  have hb5 : Below w4.heap.size w4 (w4.alloc (.cells #[.string mk, .int .i64 mi] 34)) := (Below.refl _ _).alloc (Nat.le_refl _) _
  have h5 : (w4.alloc (.cells #[.string mk, .int .i64 mi] 34)).heap[t.b]? = w2.heap[t.b]? := (hb5.block t.b htb4).trans h4
  refine hK.out _ _ h5 (fun hHeld => ?_)
  clear hK K hHeld
  try simp only [Act.put, List.setIfInBounds_toArray, List.set_cons_zero, List.set_cons_succ]
  refine wpAnyH_ready (rs := [11]) (by kernel_rfl) (by simp) ?_
  refine AllReadyH.cons (o := ⟨_, _, _, _, _, _⟩) rfl (fun K hK => ?_) AllReadyH.nil
  go_simp
  have hins := insE_any (w := w4) (t := t) i w4.heap.size (mk, mi) (hP4.st.sh t (by simp)) (hP4.st.sc_one (by simp)) hb5 (Nat.le_refl _) (heap_alloc_new w4 _) HH.out.2.2.2.2.1 (by have := HH.out.2.2.2.2.2.1; omega)
  rw [es0, hel] at hins
  refine hins.mono ?_
  rintro e w6 ⟨a6, c6, rfl, hE6, hb6, hsz6⟩
  have h6 : w6.heap[t.b]? = w2.heap[t.b]? := hb6.trans h4
  clear hins hb5 h5
  refine hK.out _ _ h6 (fun hHeld => ?_)
  clear hK K hHeld
  try simp only [Act.put, List.setIfInBounds_toArray, List.set_cons_zero, List.set_cons_succ]
  refine wpAnyH_ready (rs := [12]) (by kernel_rfl) (by simp) ?_
  refine AllReadyH.cons (o := ⟨_, _, _, _, _, _⟩) rfl (fun K hK => ?_) AllReadyH.nil
  go_simp
  refine hK.out _ _ h6 (fun hHeld => ?_)
  clear hK K hHeld
  try simp only [Act.put, List.setIfInBounds_toArray, List.set_cons_zero, List.set_cons_succ]
  refine wpAnyH_ready (rs := [13]) (by kernel_rfl) (by simp) ?_
  refine AllReadyH.cons (o := ⟨_, _, _, _, _, _⟩) rfl (fun K hK => ?_) AllReadyH.nil
  go_simp
  refine hK.out _ _ h6 (fun hHeld => ?_)
  clear hK K hHeld
  try simp only [Act.put, List.setIfInBounds_toArray, List.set_cons_zero, List.set_cons_succ]
  refine wpAnyH_done (by kernel_rfl) ?_ _
  have e0 := P0 w6 h6
  have ez : ∀ j, w6.frozen? ⟨t.b, j, none⟩ = false := fun j => (World.frozen?_of_block (a := ⟨t.b, j, none⟩) h6).trans (tf j)
  clear P0 h0 h4 h6 hb6 es0
  show Oper.wp _ _ _ _ _ _
  go_simp
  obtain ⟨W7, hW7⟩ : ∃ W7, w6.setCell ⟨t.b, 0, none⟩ (.slice a6 (el + 1) c6) = W7 := ⟨_, rfl⟩
  rw [hW7] at hE6 ⊢
  clear hW7 e0 ez hP4
  obtain ⟨hP4, hc4⟩ := G3.out
  obtain ⟨t7, ht7⟩ : ∃ t7 : Nd, t7 = { t with s := .slice a6 (el + 1) c6, es := t.es.take i ++ (mk, mi) :: t.es.drop i } := ⟨_, rfl⟩
  rw [← ht7] at hE6
  have hP7 : Stp w [t, c] W7 [t7, c4, R0] := hP4.trans (St.at (A := []) (D := [c4, R0]) hP4.st hE6)
  obtain ⟨sa7, sc7, ka7, kd7, es7, ek7, u0, u1, uf⟩ := (hP7.st.sh t7 (by simp)).view
  have hk7 : t7.kids = t.kids := by rw [ht7]
  have hb7 : t7.b = t.b := by rw [ht7]
  have hkl := HH.out.2.2.2.2.2.2.2.1
  rw [hk7, hkl] at ek7 u1
  rw [hb7] at u1 uf
  have hins := fun W1 hb hr => insP_any (w := W7) (W1 := W1) (t := t7) (i + 1) W7.heap.size R0 (hP7.st.sh t7 (by simp)) (hP7.st.sc_one (by simp)) hb (Nat.le_refl _) hr (by rw [hk7]; have := HH.out.2.2.2.2.2.2.2.2.2.1; omega) (by rw [hk7]; have := HH.out.2.2.2.2.2.2.1; omega)
  rw [ek7, hk7, hkl, hb7, G1.out.2.2.2.2.2.1] at hins
  have hu7 := lt_of_cell u1
  have G4 := (show Hid _ from And.intro hP7 (And.intro ht7 (And.intro hc4 (And.intro hk7 hb7))))
  have zi2 := HZ.out
  clear hP4 hP7 ht7 hc4 hk7 hb7 hE6 es7 ek7 u0 htb4 hsz6 hkl
  go_wp2_with fail
  refine (hins _ ((Below.refl _ _).alloc (Nat.le_refl _) _) (heap_alloc_new W7 _)).mono ?_
  rintro e w9 ⟨a9, c9, rfl, hE9, hb9, hsz9⟩
  have e1 := (World.cell?_of_block (a := ⟨t.b, 1, none⟩) hb9).trans u1
  have ez : ∀ j, w9.frozen? ⟨t.b, j, none⟩ = false := fun j => (World.frozen?_of_block (a := ⟨t.b, j, none⟩) hb9).trans (uf j)
  clear hins zi2
  go_wp2
  obtain ⟨hP7, ht7, hc4, hk7, hb7⟩ := G4.out
  obtain ⟨hS, hc, h5, hk, hi, hn, hn2, hkl, hel, hik, hm⟩ := HH.out
  have hfin : SplitV w t c i (w9.setCell ⟨t.b, 1, none⟩ (.slice a9 (kl + 1) c9)) := by
    have hP9 := hP7.trans (St.at (A := []) (D := [c4, R0]) hP7.st hE9)
    obtain ⟨hP2, hkids, hcb, hces, hscE, hRb, hRc, hsb, hold, hcE, hR0, hg1, hg2, hsz1⟩ := G1.out
    refine ⟨.slice a6 (el + 1) c6, .slice a9 (kl + 1) c9, s4, cE.k, R0, (mk, mi), hm, by rw [hR0], by rw [hR0, hk]; rfl, ?_⟩
    have e1 : c4 = { c with s := s4, k := cE.k, es := c.es.take 2, kids := c.kids.take 3 } := by
      rw [hc4, hces, hkids, hk]
      congr 1
      rw [List.take_take, List.drop_of_length_le (by rw [List.length_take]; omega), List.append_nil]
      rfl
    rw [e1, ht7] at hP9
    exact hP9
  exact bodyPost_end (v := .tuple #[]) (by simp [results, Try.results35, go_sem]) rfl ⟨rfl, hfin⟩
end Go.Proofs.Ytoaekmighinmhaa
