/-
  Ways to what stands in values, plain laws: what is put is found, all else is as it was. Conditions: as stated.
-/
import Derived.Test.YtgcccihnlecpnaaGreatDoorPPure
namespace Go.Proofs.YtgcccihnlecpnaaGreatDoor

theorem V.eta (v : V) : (⟨v.kind, v.num, v.text, v.list, v.fields⟩ : V) = v := by cases v; rfl
/-- names rise, so deep. -/
def Up : Nat → V → Prop
  | 0, _ => True
  | n + 1, v => Rises v.fields ∧ (∀ x ∈ v.list, Up n x) ∧ ∀ p ∈ v.fields, Up n p.2
theorem getF_mem {name : ByteArray} {x : V} : ∀ {fs : List (ByteArray × V)}, getF name fs = some x → ∃ p ∈ fs, p.2 = x ∧ cmpT p.1 name = 0
  | [], h => by cases h
  | f :: fs, h => by
    rw [getF_cons] at h
    split at h
    · rename_i h1
      exact ⟨f, by simp, Option.some.inj h, h1⟩
    · obtain ⟨p, hp, e⟩ := getF_mem h
      exact ⟨p, by simp [hp], e⟩
theorem set_same {name : ByteArray} {x : V} : ∀ {fs : List (ByteArray × V)}, Rises fs → getF name fs = some x → setF name x fs = fs
  | [], _, h => by cases h
  | f :: fs, hr, h => by
    have ih := @set_same name x fs hr.tail
    have hab := @get_above name fs f hr
    rw [getF_cons] at h
    simp only [setF]
    split at h
    · rename_i h1
      have e := Option.some.inj h
      rw [if_pos h1, ← e]
    · rename_i h1
      rw [if_neg h1]
      split
      · rename_i h2
        have := hab h2
        rw [getF_cons, if_neg h1] at this
        rw [this] at h
        cases h
      · rw [ih h]
theorem set_del {name : ByteArray} {x : V} : ∀ {fs : List (ByteArray × V)}, Rises fs → getF name fs = some x → setF name x (delF name fs) = fs
  | [], _, h => by cases h
  | f :: fs, hr, h => by
    have ih := @set_del name x fs hr.tail
    have hab := @get_above name fs f hr
    rw [getF_cons] at h
    simp only [delF]
    split at h
    · rename_i h1
      have e := Option.some.inj h
      have en := cmpT_eq h1
      rw [if_pos h1]
      cases fs with
      | nil => simp only [setF, ← en, ← e]
      | cons g gs =>
        have h2 := hr.1
        have a := good_cmpT.anti f.1 g.1
        simp only [setF]
        rw [← en, if_neg (by omega), if_pos (by omega), ← e]
    · rename_i h1
      rw [if_neg h1]
      simp only [setF]
      rw [if_neg h1]
      split
      · rename_i h2
        have := hab h2
        rw [getF_cons, if_neg h1] at this
        rw [this] at h
        cases h
      · rw [ih h]
theorem list_set_get {α : Type} {l : List α} {i : Nat} {x : α} (h : l[i]? = some x) (y : α) : (l.set i y)[i]? = some y := by
  have := (List.getElem?_eq_some_iff.1 h).1
  simp [this]
theorem list_set_self {α : Type} {l : List α} {i : Nat} {x : α} (h : l[i]? = some x) : l.set i x = l := by
  obtain ⟨h1, h2⟩ := List.getElem?_eq_some_iff.1 h
  rw [← h2]
  exact List.set_getElem_self h1

theorem put_cons {v : V} {p : ByteArray} {ps : List ByteArray} {x y : V} (h : putP v (p :: ps) x = some y) :
    (v.kind = 5 ∧ ∃ z, putP ((getF p v.fields).getD objE) ps x = some z ∧ y = { v with fields := setF p z v.fields }) ∨
    (v.kind = 4 ∧ ∃ i u z, placeOf p = some i ∧ v.list[i]? = some u ∧ putP u ps x = some z ∧ y = { v with list := v.list.set i z }) := by
  unfold putP at h
  split at h
  · rename_i hk
    obtain ⟨z, hz, rfl⟩ := Option.map_eq_some_iff.1 h
    exact .inl ⟨hk, z, hz, rfl⟩
  · split at h
    · rename_i hk
      obtain ⟨i, hi, h⟩ := Option.bind_eq_some_iff.1 h
      obtain ⟨u, hu, h⟩ := Option.bind_eq_some_iff.1 h
      obtain ⟨z, hz, rfl⟩ := Option.map_eq_some_iff.1 h
      exact .inr ⟨hk, i, u, z, hi, hu, hz, rfl⟩
    · cases h
/-- what is put is found there. -/
theorem put_find : ∀ (ps : List ByteArray) (v x y : V), putP v ps x = some y → findP y ps = some x
  | [], v, x, y, h => by cases h; rfl
  | p :: ps, v, x, y, h => by
    rcases put_cons h with ⟨hk, z, hz, rfl⟩ | ⟨hk, i, u, z, hi, hu, hz, rfl⟩
    · have ih := put_find ps _ x z hz
      show (atP _ p).bind _ = _
      have : atP { v with fields := setF p z v.fields } p = some z := by
        unfold atP
        rw [if_pos (show v.kind = 5 from hk)]
        exact get_set_same p z v.fields
      rw [this]
      exact ih
    · have ih := put_find ps _ x z hz
      show (atP _ p).bind _ = _
      have : atP { v with list := v.list.set i z } p = some z := by
        unfold atP
        rw [if_neg (show ¬ v.kind = 5 by omega), if_pos (show v.kind = 4 from hk), hi]
        exact list_set_get hu z
      rw [this]
      exact ih
theorem put_kind {v : V} {p : ByteArray} {ps : List ByteArray} {x y : V} (h : putP v (p :: ps) x = some y) : y.kind = v.kind := by
  rcases put_cons h with ⟨hk, z, hz, rfl⟩ | ⟨hk, i, u, z, hi, hu, hz, rfl⟩ <;> rfl
/-- another part finds what it found. -/
theorem put_other {v : V} {p q : ByteArray} {ps : List ByteArray} {x y : V} (h : putP v (p :: ps) x = some y) (h1 : ¬ cmpT q p = 0) (h2 : ∀ i, placeOf p = some i → placeOf q ≠ some i) : atP y q = atP v q := by
  rcases put_cons h with ⟨hk, z, hz, rfl⟩ | ⟨hk, i, u, z, hi, hu, hz, rfl⟩
  · unfold atP
    rw [if_pos (show v.kind = 5 from hk), if_pos hk]
    exact get_set_other p q z h1 v.fields
  · unfold atP
    rw [if_neg (show ¬ v.kind = 5 by omega), if_pos (show v.kind = 4 from hk), if_neg (show ¬ v.kind = 5 by omega), if_pos hk]
    rcases hq : placeOf q with _ | j
    · rfl
    · have hne : i ≠ j := fun e => h2 i hi (by rw [hq, e])
      show (v.list.set i z)[j]? = v.list[j]?
      rw [List.getElem?_set_ne hne]
theorem put_empty : ∀ (ps : List ByteArray) (x : V), ∃ y, putP objE ps x = some y
  | [], x => ⟨x, rfl⟩
  | p :: ps, x => by
    obtain ⟨y, hy⟩ := put_empty ps x
    refine ⟨{ objE with fields := setF p y [] }, ?_⟩
    unfold putP
    rw [if_pos (show objE.kind = 5 from rfl)]
    show (putP objE ps x).map _ = _
    rw [hy]; rfl
/-- is there a place? -/
def mayP (v : V) : List ByteArray → Bool
  | [] => true
  | p :: ps => match atP v p with
    | none => v.kind = 5
    | some x => mayP x ps
theorem put_may : ∀ (ps : List ByteArray) (v x : V), (putP v ps x).isSome = mayP v ps
  | [], _, _ => rfl
  | p :: ps, v, x => by
    unfold putP mayP atP
    by_cases hk : v.kind = 5
    · rw [if_pos hk, if_pos hk]
      rcases hg : getF p v.fields with _ | z
      · obtain ⟨y, hy⟩ := put_empty ps x
        show ((putP objE ps x).map _).isSome = decide (v.kind = 5)
        rw [hy]
        simp [hk]
      · have ih := put_may ps z x
        show ((putP z ps x).map _).isSome = mayP z ps
        rw [← ih]
        cases putP z ps x <;> rfl
    · rw [if_neg hk, if_neg hk]
      by_cases h4 : v.kind = 4
      · rw [if_pos h4, if_pos h4]
        rcases hi : placeOf p with _ | i
        · show false = decide (v.kind = 5)
          simp [hk]
        · rcases hu : v.list[i]? with _ | u
          · simp [hu, hk]
          · have ih := put_may ps u x
            simp only [Option.bind_some, hu]
            rw [← ih]
            cases putP u ps x <;> rfl
      · rw [if_neg h4, if_neg h4]
        simp [hk]
/-- by what is there already all is as it was. -/
theorem put_same : ∀ (ps : List ByteArray) (n : Nat) (v x : V), ps.length ≤ n → Up n v → findP v ps = some x → putP v ps x = some v
  | [], _, v, x, _, _, h => by cases h; rfl
  | p :: ps, 0, _, _, hn, _, _ => by simp at hn
  | p :: ps, n + 1, v, x, hn, hu, h => by
    obtain ⟨hr, hl, hf⟩ := hu
    obtain ⟨z, hz, h⟩ := Option.bind_eq_some_iff.1 (show (atP v p).bind _ = some x from h)
    unfold atP at hz
    unfold putP
    split at hz
    · rename_i hk
      obtain ⟨q, hq, rfl, _⟩ := getF_mem hz
      rw [if_pos hk, hz]
      show (putP q.2 ps x).map _ = _
      rw [put_same ps n q.2 x (by simpa using hn) (hf q hq) h]
      show some { v with fields := setF p q.2 v.fields } = some v
      rw [set_same hr hz, V.eta]
    · rename_i hk
      split at hz
      · rename_i h4
        obtain ⟨i, hi, hz⟩ := Option.bind_eq_some_iff.1 hz
        rw [if_neg hk, if_pos h4, hi]
        show (v.list[i]?).bind _ = _
        rw [hz]
        show (putP z ps x).map _ = _
        rw [put_same ps n z x (by simpa using hn) (hl z (List.mem_of_getElem? hz)) h]
        show some { v with list := v.list.set i z } = some v
        rw [list_set_self hz, V.eta]
      · cases hz
/-- put back what was there: all is as it was. -/
theorem put_back : ∀ (ps : List ByteArray) (n : Nat) (v a x y : V), ps.length ≤ n → Up n v → findP v ps = some x → putP v ps a = some y → putP y ps x = some v
  | [], _, v, a, x, y, _, _, h, _ => by cases h; rfl
  | p :: ps, 0, _, _, _, _, hn, _, _, _ => by simp at hn
  | p :: ps, n + 1, v, a, x, y, hn, hu, h, hp => by
    obtain ⟨hr, hl, hf⟩ := hu
    obtain ⟨z, hz, h⟩ := Option.bind_eq_some_iff.1 (show (atP v p).bind _ = some x from h)
    unfold atP at hz
    rcases put_cons hp with ⟨hk, z', hz', rfl⟩ | ⟨hk, i, u, z', hi, hui, hz', rfl⟩
    · rw [if_pos hk] at hz
      obtain ⟨q, hq, rfl, _⟩ := getF_mem hz
      rw [hz] at hz'
      have ih := put_back ps n q.2 a x z' (by simpa using hn) (hf q hq) h hz'
      unfold putP
      rw [if_pos (show v.kind = 5 from hk)]
      show (putP ((getF p (setF p z' v.fields)).getD objE) ps x).map _ = _
      rw [get_set_same]
      show (putP z' ps x).map _ = _
      rw [ih]
      show some { v with fields := setF p q.2 (setF p z' v.fields) } = some v
      rw [set_back p z' q.2 hr hz, V.eta]
    · rw [if_neg (by omega), if_pos hk, hi] at hz
      have hz : v.list[i]? = some z := hz
      rw [hui] at hz
      have e := Option.some.inj hz
      subst e
      have ih := put_back ps n u a x z' (by simpa using hn) (hl u (List.mem_of_getElem? hui)) h hz'
      unfold putP
      rw [if_neg (show ¬ v.kind = 5 by omega), if_pos (show v.kind = 4 from hk), hi]
      show ((v.list.set i z')[i]?).bind _ = _
      rw [list_set_get hui]
      show (putP z' ps x).map _ = _
      rw [ih]
      show some { v with list := (v.list.set i z').set i u } = some v
      rw [List.set_set, list_set_self hui, V.eta]

theorem find_append : ∀ (ps qs : List ByteArray) (v : V), findP v (ps ++ qs) = (findP v ps).bind fun x => findP x qs
  | [], _, _ => rfl
  | p :: ps, qs, v => by
    show (atP v p).bind (fun x => findP x (ps ++ qs)) = ((atP v p).bind fun x => findP x ps).bind _
    cases atP v p with
    | none => rfl
    | some x => exact find_append ps qs x
theorem cut_cons {v : V} {p q : ByteArray} {ps : List ByteArray} {y : V} (h : cutP v (p :: q :: ps) = some y) :
    (v.kind = 5 ∧ ∃ u z, getF p v.fields = some u ∧ cutP u (q :: ps) = some z ∧ y = { v with fields := setF p z v.fields }) ∨
    (v.kind = 4 ∧ ∃ i u z, placeOf p = some i ∧ v.list[i]? = some u ∧ cutP u (q :: ps) = some z ∧ y = { v with list := v.list.set i z }) := by
  unfold cutP at h
  split at h
  · rename_i hk
    obtain ⟨u, hu, h⟩ := Option.bind_eq_some_iff.1 h
    obtain ⟨z, hz, rfl⟩ := Option.map_eq_some_iff.1 h
    exact .inl ⟨hk, u, z, hu, hz, rfl⟩
  · split at h
    · rename_i hk
      obtain ⟨i, hi, h⟩ := Option.bind_eq_some_iff.1 h
      obtain ⟨u, hu, h⟩ := Option.bind_eq_some_iff.1 h
      obtain ⟨z, hz, rfl⟩ := Option.map_eq_some_iff.1 h
      exact .inr ⟨hk, i, u, z, hi, hu, hz, rfl⟩
    · cases h
/-- is there an object with that field? -/
def hasF (o : Option V) (p : ByteArray) : Bool := match o with
  | none => false
  | some o => decide (o.kind = 5) && (getF p o.fields).isSome
/-- it is cut just if the others find an object with that field. -/
theorem cut_some : ∀ (ps : List ByteArray) (p : ByteArray) (v : V), (cutP v (ps ++ [p])).isSome = hasF (findP v ps) p
  | [], p, v => by
    show (cutP v [p]).isSome = (decide (v.kind = 5) && (getF p v.fields).isSome)
    unfold cutP
    by_cases h : v.kind = 5
    · by_cases h2 : (getF p v.fields).isSome = true
      · rw [if_pos ⟨h, h2⟩, h2]; simp [h]
      · rw [if_neg (fun e => h2 e.2)]
        simp only [Bool.not_eq_true] at h2
        rw [h2]; simp
    · rw [if_neg (fun e => h e.1)]; simp [h]
  | [r], p, v => by
    have ih := fun u => cut_some [] p u
    show (cutP v (r :: p :: [])).isSome = _
    unfold cutP
    show _ = hasF ((atP v r).bind (fun x => findP x [])) p
    unfold atP
    by_cases hk : v.kind = 5
    · rw [if_pos hk, if_pos hk]
      cases hg : getF r v.fields with
      | none => rfl
      | some u =>
        show ((cutP u [p]).map _).isSome = (decide (u.kind = 5) && (getF p u.fields).isSome)
        rw [Option.isSome_map]
        exact ih u
    · rw [if_neg hk, if_neg hk]
      by_cases h4 : v.kind = 4
      · rw [if_pos h4, if_pos h4]
        cases placeOf r with
        | none => rfl
        | some i =>
          show ((v.list[i]?).bind _).isSome = hasF ((v.list[i]?).bind _) p
          cases v.list[i]? with
          | none => rfl
          | some u =>
            show ((cutP u [p]).map _).isSome = (decide (u.kind = 5) && (getF p u.fields).isSome)
            rw [Option.isSome_map]
            exact ih u
      · rw [if_neg h4, if_neg h4]; rfl
  | r :: s :: ps, p, v => by
    have ih := fun u => cut_some (s :: ps) p u
    show (cutP v (r :: s :: (ps ++ [p]))).isSome = _
    unfold cutP
    show _ = hasF ((atP v r).bind (fun x => findP x (s :: ps))) p
    unfold atP
    by_cases hk : v.kind = 5
    · rw [if_pos hk, if_pos hk]
      cases hg : getF r v.fields with
      | none => rfl
      | some u =>
        show ((cutP u (s :: (ps ++ [p]))).map _).isSome = hasF (findP u (s :: ps)) p
        rw [Option.isSome_map]
        exact ih u
    · rw [if_neg hk, if_neg hk]
      by_cases h4 : v.kind = 4
      · rw [if_pos h4, if_pos h4]
        cases placeOf r with
        | none => rfl
        | some i =>
          show ((v.list[i]?).bind _).isSome = hasF ((v.list[i]?).bind _) p
          cases v.list[i]? with
          | none => rfl
          | some u =>
            show ((cutP u (s :: (ps ++ [p]))).map _).isSome = hasF (findP u (s :: ps)) p
            rw [Option.isSome_map]
            exact ih u
      · rw [if_neg h4, if_neg h4]; rfl
/-- what is cut is there no more; put there anew all is as it was. -/
theorem cut_gone : ∀ (ps : List ByteArray) (n : Nat) (v y : V), ps.length ≤ n → Up n v → cutP v ps = some y → findP y ps = none ∧ ∀ was, findP v ps = some was → putP y ps was = some v
  | [], _, _, _, _, _, h => by cases h
  | _ :: _, 0, _, _, hn, _, _ => by simp at hn
  | [p], n + 1, v, y, _, hu, h => by
    obtain ⟨hr, _, _⟩ := hu
    unfold cutP at h
    split at h
    · rename_i hk
      cases h
      refine ⟨?_, fun was hw => ?_⟩
      · show (atP _ p).bind _ = none
        have : atP { v with fields := delF p v.fields } p = none := by
          unfold atP
          rw [if_pos (show v.kind = 5 from hk.1)]
          exact get_del p hr
        rw [this]; rfl
      · have hw : (atP v p).bind (fun x => some x) = some was := hw
        have hw : getF p v.fields = some was := by simpa [atP, hk.1] using hw
        unfold putP
        rw [if_pos (show v.kind = 5 from hk.1)]
        show some { v with fields := setF p was (delF p v.fields) } = some v
        rw [set_del hr hw, V.eta]
    · cases h
  | p :: q :: ps, n + 1, v, y, hn, hu, h => by
    obtain ⟨hr, hl, hf⟩ := hu
    rcases cut_cons h with ⟨hk, u, z, hu, hz, rfl⟩ | ⟨hk, i, u, z, hi, hu, hz, rfl⟩
    · obtain ⟨e, he, rfl, _⟩ := getF_mem hu
      obtain ⟨i1, i2⟩ := cut_gone (q :: ps) n e.2 z (by simpa using hn) (hf e he) hz
      refine ⟨?_, fun was hw => ?_⟩
      · show (atP _ p).bind _ = none
        have : atP { v with fields := setF p z v.fields } p = some z := by
          unfold atP
          rw [if_pos (show v.kind = 5 from hk)]
          exact get_set_same p z v.fields
        rw [this]; exact i1
      · have hw : (atP v p).bind (fun x => findP x (q :: ps)) = some was := hw
        unfold atP at hw
        rw [if_pos hk, hu, Option.bind_some] at hw
        unfold putP
        rw [if_pos (show v.kind = 5 from hk)]
        show (putP ((getF p (setF p z v.fields)).getD objE) (q :: ps) was).map _ = _
        rw [get_set_same]
        show (putP z (q :: ps) was).map _ = _
        rw [i2 was hw]
        show some { v with fields := setF p e.2 (setF p z v.fields) } = some v
        rw [set_back p z e.2 hr hu, V.eta]
    · obtain ⟨i1, i2⟩ := cut_gone (q :: ps) n u z (by simpa using hn) (hl u (List.mem_of_getElem? hu)) hz
      refine ⟨?_, fun was hw => ?_⟩
      · show (atP _ p).bind _ = none
        have : atP { v with list := v.list.set i z } p = some z := by
          unfold atP
          rw [if_neg (show ¬ v.kind = 5 by omega), if_pos (show v.kind = 4 from hk), hi]
          exact list_set_get hu z
        rw [this]; exact i1
      · have hw : (atP v p).bind (fun x => findP x (q :: ps)) = some was := hw
        unfold atP at hw
        rw [if_neg (show ¬ v.kind = 5 by omega), if_pos hk, hi] at hw
        have hw : ((v.list[i]?).bind fun x => findP x (q :: ps)) = some was := hw
        rw [hu, Option.bind_some] at hw
        unfold putP
        rw [if_neg (show ¬ v.kind = 5 by omega), if_pos (show v.kind = 4 from hk), hi]
        show ((v.list.set i z)[i]?).bind _ = _
        rw [list_set_get hu]
        show (putP z (q :: ps) was).map _ = _
        rw [i2 was hw]
        show some { v with list := (v.list.set i z).set i u } = some v
        rw [List.set_set, list_set_self hu, V.eta]
end Go.Proofs.YtgcccihnlecpnaaGreatDoor
