/-
  package value's Set, Get and Del at objects whose names rise, by what they answer. Conditions: as stated (fewer than a million fields).
-/
import Derived.Test.YtgcccihnlecpnaaGreatDoorVQ
import Derived.Test.YtgcccihnlecpnaaGreatDoorVSet4
import Derived.Test.YtgcccihnlecpnaaGreatDoorVDelV
import Derived.Test.YtgcccihnlecpnaaGreatDoorVDoc
namespace Go.Proofs.YtgcccihnlecpnaaGreatDoor
open Go.RowKit

theorem ins_set {name : ByteArray} {x : V} : ∀ {fs : List (ByteArray × V)}, getF name fs = none → insF name x fs = setF name x fs
  | [], _ => rfl
  | f :: fs, h => by
    rw [getF_cons] at h
    by_cases h0 : cmpT f.1 name = 0
    · rw [if_pos h0] at h; cases h
    · rw [if_neg h0] at h
      by_cases h1 : 0 < cmpT f.1 name
      · simp [insF, setF, h0, h1]
      · simp [insF, setF, h0, h1, ins_set h]
theorem repl_set {name : ByteArray} {x : V} : ∀ {fs : List (ByteArray × V)}, Rises fs → (getF name fs).isSome = true → replF name x fs = setF name x fs
  | [], _, h => by cases h
  | f :: fs, hr, h => by
    by_cases h1 : 0 < cmpT f.1 name
    · rw [get_above hr h1] at h; cases h
    · rw [getF_cons] at h
      by_cases h0 : cmpT f.1 name = 0
      · simp [replF, setF, h0]
      · rw [if_neg h0] at h
        simp [replF, setF, h0, h1, repl_set hr.tail h]
theorem del_same {name : ByteArray} : ∀ {fs : List (ByteArray × V)}, getF name fs = none → delF name fs = fs
  | [], _ => rfl
  | f :: fs, h => by
    rw [getF_cons] at h
    by_cases h0 : cmpT f.1 name = 0
    · rw [if_pos h0] at h; cases h
    · rw [if_neg h0] at h
      simp [delF, h0, del_same h]
theorem del_head (name : ByteArray) : ∀ {fs : List (ByteArray × V)} {f : ByteArray × V}, Rises (f :: fs) → ∀ g gs, delF name fs = g :: gs → cmpT f.1 g.1 < 0
  | [], _, _, g, gs, h => by cases h
  | a :: fs, f, hr, g, gs, h => by
    have h1 : cmpT f.1 a.1 < 0 := hr.1
    by_cases h0 : cmpT a.1 name = 0
    · simp only [delF, h0, if_true] at h
      subst h
      exact good_cmpT.lt_left h1 (by have : cmpT a.1 g.1 < 0 := hr.2.1; omega)
    · simp only [delF, h0, if_false] at h
      cases h
      exact h1
theorem rises_del (name : ByteArray) : ∀ {fs : List (ByteArray × V)}, Rises fs → Rises (delF name fs)
  | [], h => h
  | f :: fs, h => by
    by_cases h0 : cmpT f.1 name = 0
    · simp only [delF, h0, if_true]; exact h.tail
    · simp only [delF, h0, if_false]; exact rises_cons (rises_del name h.tail) (del_head name h)

def setV (name : ByteArray) (x v : V) : V := { v with fields := setF name x v.fields }
def delV (name : ByteArray) (v : V) : V := { v with fields := delF name v.fields }
theorem delV_same {name : ByteArray} {v : V} (h : getF name v.fields = none) : delV name v = v := by
  unfold delV; rw [del_same h]; cases v; rfl
theorem delV_setV {name : ByteArray} {x v : V} (h : getF name v.fields = none) : delV name (setV name x v) = v := by
  unfold delV setV; simp only [del_set name x h]; cases v; rfl
theorem setV_back {name : ByteArray} {x v y : V} (hr : Rises v.fields) (h : getF name v.fields = some y) : setV name y (setV name x v) = v := by
  unfold setV; simp only [set_back name x y hr h]; cases v; rfl

theorem delV_len (name : ByteArray) (v : V) : (delV name v).fields.length ≤ v.fields.length := by
  show (delF name v.fields).length ≤ _
  rcases h : getF name v.fields with _ | y
  · rw [del_same h]; exact Nat.le_refl _
  · have := length_del name (fs := v.fields) (by rw [h]; rfl); omega
theorem delV_len_there {name : ByteArray} {v : V} (h : (getF name v.fields).isSome = true) : ((delV name v).fields.length : Int) = (v.fields.length : Int) - 1 := by
  have := length_del name (fs := v.fields) h
  show ((delF name v.fields).length : Int) = _
  omega

theorem Set_is {n : Nat} {v x s : V} {l f xl xf : Value} {nm : ByteArray} {w : World} (hs : s = setV nm x v) (hk : v.kind = 5) (hr : Rises v.fields) (hn : v.fields.length < 1000000) (hv : Lies n w v l f) (hx : Lies n w x xl xf) :
    Calls Tryz.prog 39 #[.agg #[.int .i64 v.kind, .int .i64 v.num, .string v.text, l, f], .string nm, .agg #[.int .i64 x.kind, .int .i64 x.num, .string x.text, xl, xf]] w
      fun r w' => ∃ al cl af cf, r = .returned (.agg #[.int .i64 s.kind, .int .i64 s.num, .string s.text, .slice al s.list.length cl, .slice af s.fields.length cf]) ∧ Lies (n + 2) w' s (.slice al s.list.length cl) (.slice af s.fields.length cf) ∧ Below w.heap.size w w' := by
  subst hs
  rcases where_name nm v.fields with ⟨h1, h2⟩ | ⟨j, q, y, h1, h2, h3, h4, _⟩
  · refine (Set_new n v x l f xl xf nm w hv hx hk h1 hn).mono ?_
    rintro e w' ⟨l', f', rfl, hrep, hb⟩
    rw [ins_set h2] at hrep
    obtain ⟨al, cl, af, cf, rfl, rfl⟩ := hrep.slices
    exact ⟨al, cl, af, cf, rfl, hrep.lies, hb⟩
  · refine (Set_there n v x l f xl xf nm w hv hx hk j q y h1 h2).mono ?_
    rintro e w' ⟨l', f', rfl, hrep, hb⟩
    rw [← h4, repl_set hr (by rw [h3]; rfl)] at hrep
    obtain ⟨al, cl, af, cf, rfl, rfl⟩ := hrep.slices
    exact ⟨al, cl, af, cf, rfl, hrep.lies, hb⟩
theorem Del_is {n : Nat} {v d : V} {l f : Value} {nm : ByteArray} {w : World} {B : Bool} (hd : d = delV nm v) (hB : (getF nm v.fields).isSome = B) (hk : v.kind = 5) (hv : Lies n w v l f) :
    Calls Tryz.prog 25 #[.agg #[.int .i64 v.kind, .int .i64 v.num, .string v.text, l, f], .string nm] w
      fun r w' => ∃ al cl af cf, r = .returned (.tuple #[.agg #[.int .i64 d.kind, .int .i64 d.num, .string d.text, .slice al d.list.length cl, .slice af d.fields.length cf], .bool B]) ∧ Lies (n + 1) w' d (.slice al d.list.length cl) (.slice af d.fields.length cf) ∧ Below w.heap.size w w' := by
  subst hd
  subst hB
  rcases where_name nm v.fields with ⟨h1, h2⟩ | ⟨j, q, y, h1, h2, h3, _, h5⟩
  · refine (Del_none n v l f nm w hv (by rw [if_pos hk, h1])).mono ?_
    rintro e w' ⟨l', f', rfl, hrep, hb⟩
    rw [delV_same h2, h2]
    obtain ⟨al, cl, af, cf, rfl, rfl⟩ := hrep.slices
    exact ⟨al, cl, af, cf, rfl, hrep.lies, hb⟩
  · refine (Del_there n v l f nm w hv hk j h1 (List.getElem?_eq_some_iff.1 h2).1).mono ?_
    rintro e w' ⟨l', f', rfl, hrep, hb⟩
    rw [← h5] at hrep
    rw [h3]
    obtain ⟨al, cl, af, cf, rfl, rfl⟩ := hrep.slices
    exact ⟨al, cl, af, cf, rfl, hrep.lies, hb⟩
theorem same_refl {n : Nat} {x : V} {la fa lb fb : Value} {w : World} (ha : Lies n w x la fa) (hb : Lies n w x lb fb) :
    Calls Tryz.prog 12 #[.agg #[.int .i64 x.kind, .int .i64 x.num, .string x.text, la, fa], .agg #[.int .i64 x.kind, .int .i64 x.num, .string x.text, lb, fb]] w fun e w' => e = .returned (.bool true) ∧ Below w.heap.size w w' :=
  Same_is ((good_cmpV (n + 1)).refl x) ha hb
end Go.Proofs.YtgcccihnlecpnaaGreatDoor
