/-
  package path's Cut by its contract. Conditions: as stated (parts of at most 2^40 bytes; names rise).
-/
import Derived.Test.YtgcccihnlecpnaaGreatDoorU14
namespace Go.Proofs.YtgcccihnlecpnaaGreatDoor
open Go.RowKit

/-- a value without a field, if it has it. -/
def hasD (nm : ByteArray) (u : V) : Bool := decide (u.kind = 5) && (getF nm u.fields).isSome
def cutD (nm : ByteArray) (u : V) : V := if hasD nm u = true then delV nm u else u
theorem cutP_one (nm : ByteArray) (u : V) : cutP u [nm] = if hasD nm u = true then some (cutD nm u) else none := by
  unfold cutD hasD delV
  show (if u.kind = 5 ∧ (getF nm u.fields).isSome then _ else _) = _
  by_cases h5 : u.kind = 5
  · by_cases hs : (getF nm u.fields).isSome = true
    · simp [h5, hs]
    · simp [h5, hs]
  · simp [h5]

theorem Del_u {n : Nat} {u : V} {l f : Value} {nm : ByteArray} {w : World} (hv : Lies n w u l f) :
    Calls Tryz.prog 25 #[.agg #[.int .i64 u.kind, .int .i64 u.num, .string u.text, l, f], .string nm] w
      fun r w' => ∃ l' f', r = .returned (.tuple #[.agg #[.int .i64 (cutD nm u).kind, .int .i64 (cutD nm u).num, .string (cutD nm u).text, l', f'], .bool (hasD nm u)]) ∧ GotV (n + 1) w w' (cutD nm u) l' f' := by
  by_cases hk : u.kind = 5
  · rcases where_name nm u.fields with ⟨h1, h2⟩ | ⟨j, q, y, h1, h2, h3, _, h5⟩
    · have hh : hasD nm u = false := by unfold hasD; rw [h2]; simp
      rw [show cutD nm u = u by unfold cutD; rw [hh]; rfl, hh]
      exact Del_none n u l f nm w hv (by rw [if_pos hk, h1])
    · have hh : hasD nm u = true := by unfold hasD; rw [h3]; simp [hk]
      rw [show cutD nm u = delV nm u by unfold cutD; rw [hh]; rfl, hh]
      refine (Del_there n u l f nm w hv hk j h1 (List.getElem?_eq_some_iff.1 h2).1).mono ?_
      rintro e w' ⟨l', f', rfl, hrep, hb⟩
      rw [← h5] at hrep
      exact ⟨l', f', rfl, hrep, hb⟩
  · have hh : hasD nm u = false := by unfold hasD; simp [hk]
    rw [show cutD nm u = u by unfold cutD; rw [hh]; rfl, hh]
    exact Del_none n u l f nm w hv (by rw [if_neg hk])

theorem cut_no {q : ByteArray} : ∀ (ps : List ByteArray) (v : V), findP v ps = none → cutP v (ps ++ [q]) = none
  | [], v, h => by cases h
  | p :: ps, v, h => by
    have hcons : ∃ r rs, ps ++ [q] = r :: rs := by cases ps with
      | nil => exact ⟨_, _, rfl⟩
      | cons a b => exact ⟨_, _, rfl⟩
    obtain ⟨r, rs, hr⟩ := hcons
    have ih := cut_no (q := q) ps
    rw [hr] at ih
    show cutP v (p :: (ps ++ [q])) = none
    rw [hr]
    show (if v.kind = 5 then _ else if v.kind = 4 then _ else _) = _
    have h' : (atP v p).bind (fun x => findP x ps) = none := h
    by_cases h5 : v.kind = 5
    · rw [if_pos h5]
      rw [at5 h5] at h'
      rcases hg : getF p v.fields with _ | z
      · rfl
      · rw [hg] at h'
        rw [Option.bind_some, ih z h']; rfl
    · rw [if_neg h5]
      by_cases h4 : v.kind = 4
      · rw [if_pos h4]
        rw [at4 h4] at h'
        rcases hg : placeOf p with _ | i
        · rfl
        · rw [hg, Option.bind_some] at h'
          rw [Option.bind_some]
          rcases hz : v.list[i]? with _ | z
          · rfl
          · rw [hz] at h'
            rw [Option.bind_some, ih z h']; rfl
      · rw [if_neg h4]
theorem cut_field {v y : V} {p q : ByteArray} {j : Nat} (hk : v.kind = 5) (hr : Rises v.fields) (hw : whereI (isName p) v.fields = (j : Nat)) (hj : v.fields[j]? = some (q, y)) (ps : List ByteArray) (r : ByteArray) :
    cutP v (p :: (ps ++ [r])) = (cutP y (ps ++ [r])).map fun z => { v with fields := v.fields.set j (q, z) } := by
  rcases where_name p v.fields with ⟨h1, h2⟩ | ⟨j', q', y', h1, h2, h3, h4, _⟩
  · rw [h1] at hw; omega
  · obtain rfl : j' = j := by rw [h1] at hw; omega
    rw [hj] at h2
    cases h2
    have : ∀ z, setF p z v.fields = v.fields.set j' (q, z) := fun z => by rw [← h4, repl_set hr (by rw [h3]; rfl)]
    cases ps with
    | nil =>
      show (if v.kind = 5 then _ else _) = _
      rw [if_pos hk, h3]
      simp only [Option.bind_some, this, List.nil_append]
    | cons a b =>
      show (if v.kind = 5 then _ else _) = _
      rw [if_pos hk, h3]
      simp only [Option.bind_some, this]
      rfl
theorem cut_list {v y : V} {p : ByteArray} {j : Nat} (hk : v.kind = 4) (hp : placeOf p = some j) (hj : v.list[j]? = some y) (ps : List ByteArray) (r : ByteArray) :
    cutP v (p :: (ps ++ [r])) = (cutP y (ps ++ [r])).map fun z => { v with list := v.list.set j z } := by
  cases ps with
  | nil =>
    show (if v.kind = 5 then _ else if v.kind = 4 then _ else _) = _
    rw [if_neg (by omega), if_pos hk, hp, Option.bind_some, hj, Option.bind_some]
    rfl
  | cons a b =>
    show (if v.kind = 5 then _ else if v.kind = 4 then _ else _) = _
    rw [if_neg (by omega), if_pos hk, hp, Option.bind_some, hj, Option.bind_some]
    rfl

/-- one who goes to where something is cut. -/
def InvC (z R N : Nat) (v : V) (all : List ByteArray) (last : ByteArray) (ps : List ByteArray) (W : World) (B o : Nat) (u : V) (ul uf : Value) : Prop :=
  ∃ F : V → V, Spot z R W B o u ul uf F ∧ Fit N (ps.length + 1) u ∧ cutP v all = (cutP u (ps ++ [last])).map F ∧ F u = v
theorem going_cut (z R N : Nat) (v : V) (all : List ByteArray) (last : ByteArray) : Going (InvC z R N v all last) where
  below := fun ⟨F, h1, h2⟩ hb => ⟨F, h1.below hb, h2⟩
  lies := fun ⟨F, ⟨n, ok, keep, h⟩, _⟩ => ⟨n, h.at_⟩
  field := fun {p ps W B o v' l f j C c q y} ⟨F, ⟨n, ok, keep, h⟩, hfit, hc, hF⟩ hk hj hw ha hf => by
    obtain ⟨C', c', yl, yf, hf', hkid⟩ := own_field h.own hj
    rw [hf] at hf'
    simp only [Value.slice.injEq, Option.some.injEq, Addr.mk.injEq, and_true, true_and] at hf'
    obtain ⟨rfl, rfl⟩ := hf'
    refine ⟨yl, yf, _, h.kid hkid fun _ => ⟨rfl, rfl, rfl⟩, hfit.2.2.2 _ (List.mem_of_getElem? hj), ?_, ?_⟩
    · rw [hc, List.cons_append, cut_field hk hfit.1 hw hj, Option.map_map]; rfl
    · have : v'.fields.set j (q, y) = v'.fields := by
        obtain ⟨h1, h2⟩ := List.getElem?_eq_some_iff.1 hj
        rw [← h2]; exact List.set_getElem_self h1
      simp only [this]
      cases v'
      exact hF
  list := fun {p ps W B o v' l f j C c y} ⟨F, ⟨n, ok, keep, h⟩, hfit, hc, hF⟩ hk hp hj ha hl => by
    obtain ⟨C', c', yl, yf, hl', hkid⟩ := own_list h.own hj
    rw [hl] at hl'
    simp only [Value.slice.injEq, Option.some.injEq, Addr.mk.injEq, and_true, true_and] at hl'
    obtain ⟨rfl, rfl⟩ := hl'
    refine ⟨yl, yf, _, h.kid hkid fun _ => ⟨rfl, rfl, rfl⟩, hfit.2.2.1 _ (List.mem_of_getElem? hj), ?_, ?_⟩
    · rw [hc, List.cons_append, cut_list hk hp hj, Option.map_map]; rfl
    · have : v'.list.set j y = v'.list := by
        obtain ⟨h1, h2⟩ := List.getElem?_eq_some_iff.1 hj
        rw [← h2]; exact List.set_getElem_self h1
      simp only [this]
      cases v'
      exact hF
end Go.Proofs.YtgcccihnlecpnaaGreatDoor
