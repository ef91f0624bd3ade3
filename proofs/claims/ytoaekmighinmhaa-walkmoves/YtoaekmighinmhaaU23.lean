/-
  What the rows of this seat share besides: five arguments; ranges and marks that come in. No conditions beyond those stated.
  What comes next of a part of entries in order, as plain data. No conditions beyond those stated.
  What the program asks the tree for, going through a range, is what comes next. Conditions: as stated.
  One who goes through a part of a tree, as it lies in memory; the program's under, over, in, New, Mark by their contracts. Conditions: as stated.
-/
import Derived.Test.YtoaekmighinmhaaU22
import Derived.Test.YtoaekmighinmhaaU1
import Derived.Test.YtoaekmighinmhaaU4
import Derived.Test.YtoaekmighinmhaaU21
namespace Go.Proofs.Ytoaekmighinmhaa
open Go.RowKit Go.ChangeShapes Go.WideShapes Go.ChangeAt

theorem cellsBool : Try.prog.cellsOf 4 = 1 := by kernel_rfl
theorem cellsRg : Try.prog.cellsOf 29 = 3 := by kernel_rfl
theorem cellsMk : Try.prog.cellsOf 36 = 3 := by kernel_rfl
theorem trodAll_five {H : Type} {enc : TypeId × Value → H} {P : Program} {w : World} {base : Nat} {spare : Nat → Bool} {held : Bool} {t0 t1 t2 t3 t4 : TypeId} {args : Array Value} {ds : List (DataW H)} {ps : List MemPlace} (h : DataW.TrodAll enc P w base spare held [t0, t1, t2, t3, t4] args.toList ds ps) :
    ∃ v0 v1 v2 v3 v4 d0 d1 d2 d3 d4 p0 p1 p2 p3 p4, args = #[v0, v1, v2, v3, v4] ∧ ds = [d0, d1, d2, d3, d4] ∧ ps = p0 ++ p1 ++ p2 ++ p3 ++ p4 ∧ DataW.Trod enc P w base spare held t0 v0 d0 p0 ∧ DataW.Trod enc P w base spare held t1 v1 d1 p1 ∧ DataW.Trod enc P w base spare held t2 v2 d2 p2 ∧ DataW.Trod enc P w base spare held t3 v3 d3 p3 ∧ DataW.Trod enc P w base spare held t4 v4 d4 p4 := by
  obtain ⟨v0, vs0, d0, ds0, p0, q0, hargs, rfl, rfl, hd0, hr0⟩ := Go.ChangeShapes.trodAll_cons h
  obtain ⟨v1, vs1, d1, ds1, p1, q1, rfl, rfl, rfl, hd1, hr1⟩ := Go.ChangeShapes.trodAll_cons hr0
  obtain ⟨v2, vs2, d2, ds2, p2, q2, rfl, rfl, rfl, hd2, hr2⟩ := Go.ChangeShapes.trodAll_cons hr1
  obtain ⟨v3, vs3, d3, ds3, p3, q3, rfl, rfl, rfl, hd3, hr3⟩ := Go.ChangeShapes.trodAll_cons hr2
  obtain ⟨v4, vs4, d4, ds4, p4, q4, rfl, rfl, rfl, hd4, hr4⟩ := Go.ChangeShapes.trodAll_cons hr3
  obtain ⟨rfl, rfl, rfl⟩ := Go.ChangeShapes.trodAll_nil hr4
  exact ⟨v0, v1, v2, v3, v4, d0, d1, d2, d3, d4, p0, p1, p2, p3, p4, by cases args; simp_all, rfl, by simp, hd0, hd1, hd2, hd3, hd4⟩
theorem trodAll_mk5 {H : Type} {enc : TypeId × Value → H} {P : Program} {w : World} {base : Nat} {spare : Nat → Bool} {held : Bool} {t0 t1 t2 t3 t4 : TypeId} {v0 v1 v2 v3 v4 : Value} {d0 d1 d2 d3 d4 : DataW H} {p0 p1 p2 p3 p4 : List MemPlace} (h0 : DataW.Trod enc P w base spare held t0 v0 d0 p0) (h1 : DataW.Trod enc P w base spare held t1 v1 d1 p1) (h2 : DataW.Trod enc P w base spare held t2 v2 d2 p2) (h3 : DataW.Trod enc P w base spare held t3 v3 d3 p3) (h4 : DataW.Trod enc P w base spare held t4 v4 d4 p4) : DataW.TrodAll enc P w base spare held [t0, t1, t2, t3, t4] [v0, v1, v2, v3, v4] [d0, d1, d2, d3, d4] (p0 ++ (p1 ++ (p2 ++ (p3 ++ p4)))) := ⟨p0, (p1 ++ (p2 ++ (p3 ++ p4))), h0, trodAll_mk4 h1 h2 h3 h4, rfl⟩
/-- a range that came in. -/
theorem open_range {H : Type} {enc : TypeId × Value → H} {W : World} {base : Nat} {v : Value} {d : DataW H} {p : List MemPlace} (hval : Value.okWide Try.prog W .any base 29 v) (h : DataW.Trod enc Try.prog W 0 (fun _ => true) true 29 v d p) : ∃ (fr to : ByteArray) (dn : Bool), v = .agg #[.string fr, .string to, .bool dn] := by
  obtain ⟨cs, rfl, hsz⟩ := okWide_struct Try.underlying29 hval
  obtain ⟨fuel, hf⟩ := h
  have hlen : cs.toList.length = 3 := by rw [Array.length_toList, hsz]; exact cellsRg
  obtain ⟨y0, y1, y2, n', _, _, g0, g1, g2⟩ := Go.Deep.trod_struct3 Try.underlying29 hf
  obtain ⟨u0, u1, u2, hcs⟩ : ∃ u0 u1 u2, cs.toList = [u0, u1, u2] := by
    match h : cs.toList, hlen with
    | [u0, u1, u2], _ => exact ⟨u0, u1, u2, rfl⟩
  have hagg : (Value.agg cs).cells.toList = cs.toList := rfl
  simp only [hagg, hcs] at g0 g1 g2
  simp [cellsStr, cellsBool] at g0 g1 g2
  obtain ⟨k, hk, _, _⟩ := DataW.trod_string Try.underlying9 g0
  obtain ⟨q, hq, _, _⟩ := DataW.trod_string Try.underlying9 g1
  obtain ⟨r, hr, _⟩ := DataW.trod_bool Try.underlying4 g2
  simp only [List.cons.injEq, and_true] at hk hq hr
  subst hk hq hr
  exact ⟨k, q, r, by simpa using congrArg (fun l => Value.agg l.toArray) hcs⟩
/-- a mark that came in. -/
theorem open_mark {H : Type} {enc : TypeId × Value → H} {W : World} {base : Nat} {v : Value} {d : DataW H} {p : List MemPlace} (hval : Value.okWide Try.prog W .any base 36 v) (h : DataW.Trod enc Try.prog W 0 (fun _ => true) true 36 v d p) : ∃ (k : ByteArray) (i : Int) (b : Bool), v = .agg #[.string k, .int .i64 i, .bool b] := by
  obtain ⟨cs, rfl, hsz⟩ := okWide_struct Try.underlying36 hval
  obtain ⟨fuel, hf⟩ := h
  have hlen : cs.toList.length = 3 := by rw [Array.length_toList, hsz]; exact cellsMk
  obtain ⟨y0, y1, n', _, _, g0, g1⟩ := trod_struct2 Try.underlying36 hf
  obtain ⟨u0, u1, u2, hcs⟩ : ∃ u0 u1 u2, cs.toList = [u0, u1, u2] := by
    match h : cs.toList, hlen with
    | [u0, u1, u2], _ => exact ⟨u0, u1, u2, rfl⟩
  have hagg : (Value.agg cs).cells.toList = cs.toList := rfl
  simp only [hagg, hcs] at g0 g1
  simp [cellsEn, cellsBool] at g0 g1
  obtain ⟨k, i, hki⟩ := entry_of_cells (cs := [u0, u1]) rfl g0
  obtain ⟨r, hr, _⟩ := DataW.trod_bool Try.underlying4 g1
  simp only [List.cons.injEq, and_true] at hki hr
  obtain ⟨rfl, rfl⟩ := hki
  subst hr
  exact ⟨k, i, r, by simpa using congrArg (fun l => Value.agg l.toArray) hcs⟩
end Go.Proofs.Ytoaekmighinmhaa

namespace Go.Proofs.Ytoaekmighinmhaa

/-- a list whose members stand in one order. -/
theorem find_at {α : Type} {R : α → α → Bool} (irr : ∀ a, R a a = false) (asy : ∀ a b, R a b = true → R b a = false) : ∀ {l : List α}, l.Pairwise (fun a b => R a b = true) → ∀ {i : Nat} {x : α}, l[i]? = some x → l.find? (R x) = l[i + 1]?
  | [], _, _, _, h => by simp at h
  | y :: l, hs, 0, x, h => by
    have h1 := List.pairwise_cons.1 hs
    simp at h
    subst h
    rw [List.find?_cons_of_neg (by simp [irr])]
    cases l with
    | nil => rfl
    | cons z l => rw [List.find?_cons_of_pos (h1.1 z (by simp))]; rfl
  | y :: l, hs, i + 1, x, h => by
    have h1 := List.pairwise_cons.1 hs
    have hx : l[i]? = some x := by simpa using h
    rw [List.find?_cons_of_neg (by simp [asy _ _ (h1.1 x (List.mem_of_getElem? hx))]), find_at irr asy h1.2 hx]
    simp
/-- the first one of which p says so is the one ahead of all such. -/
theorem find_first {α : Type} {R : α → α → Bool} {p : α → Bool} (irr : ∀ a, R a a = false) (asy : ∀ a b, R a b = true → R b a = false) : ∀ {l : List α}, l.Pairwise (fun a b => R a b = true) → ∀ {x : α}, x ∈ l → p x = true → (∀ y ∈ l, p y = true → y = x ∨ R x y = true) → l.find? p = some x
  | [], _, _, h, _, _ => by cases h
  | y :: l, hs, x, hx, hp, hm => by
    have h1 := List.pairwise_cons.1 hs
    by_cases hy : p y = true
    · rw [List.find?_cons_of_pos hy]
      rcases hm y (by simp) hy with h | h
      · rw [h]
      · rcases List.mem_cons.1 hx with h2 | h2
        · rw [h2]
        · have := asy _ _ (h1.1 x h2)
          rw [this] at h
          cases h
    · rw [List.find?_cons_of_neg hy]
      rcases List.mem_cons.1 hx with h2 | h2
      · rw [h2] at hp; exact absurd hp hy
      · exact find_first irr asy h1.2 h2 hp fun z hz => hm z (List.mem_cons_of_mem _ hz)

/-- in a range: from fr on, ahead of to, unless that is empty. -/
def inE (fr to : ByteArray) (e : En) : Bool := !decide (cmpT e.1 fr < 0) && (decide (cmpT to ⟨#[]⟩ = 0) || decide (cmpT e.1 to < 0))
/-- ahead of another one: below it, or, down, above it. -/
def goE (down : Bool) (a b : En) : Bool := if down then decide (cmpE b a < 0) else decide (cmpE a b < 0)
/-- behind a mark. -/
def behE (down : Bool) (m : Option En) (e : En) : Bool := match m with | none => true | some x => goE down x e
def dirE (down : Bool) (l : List En) : List En := if down then l.reverse else l
/-- what comes next. -/
def nextE (l : List En) (fr to : ByteArray) (down : Bool) (m : Option En) : Option En := (dirE down l).find? fun e => behE down m e && inE fr to e
theorem goE_irr (down : Bool) (a : En) : goE down a a = false := by
  cases down <;> simp [goE, good_cmpE.refl]
theorem goE_asy (down : Bool) (a b : En) (h : goE down a b = true) : goE down b a = false := by
  cases down with
  | false => simp [goE] at h ⊢; have := good_cmpE.anti a b; omega
  | true => simp [goE] at h ⊢; have := good_cmpE.anti a b; omega
theorem goE_total (down : Bool) (a b : En) : goE down a b = true ∨ a = b ∨ goE down b a = true := by
  cases down with
  | false => simpa [goE] using ltE_total a b
  | true =>
    rcases ltE_total a b with h | h | h
    · exact .inr (.inr (by simpa [goE] using h))
    · exact .inr (.inl h)
    · exact .inl (by simpa [goE] using h)
theorem dir_pair (down : Bool) {l : List En} (h : SortE l) : (dirE down l).Pairwise (fun a b => goE down a b = true) := by
  cases down with
  | false => exact List.Pairwise.imp (fun {a b} (h : cmpE a b < 0) => by simpa [goE] using h) h
  | true => exact List.pairwise_reverse.2 (List.Pairwise.imp (fun {a b} (h : cmpE a b < 0) => by simpa [goE] using h) h)
theorem mem_dir (down : Bool) {l : List En} {x : En} : x ∈ dirE down l ↔ x ∈ l := by cases down <;> simp [dirE]
theorem len_dir (down : Bool) {l : List En} : (dirE down l).length = l.length := by cases down <;> simp [dirE]
/-- what comes next is the one that is behind, and in, and ahead of all such. -/
theorem next_is {l : List En} {fr to : ByteArray} {down : Bool} {m : Option En} {x : En} (hs : SortE l) (hx : x ∈ l) (hb : behE down m x = true) (hi : inE fr to x = true)
    (hm : ∀ y ∈ l, behE down m y = true → inE fr to y = true → y = x ∨ goE down x y = true) : nextE l fr to down m = some x :=
  find_first (goE_irr down) (goE_asy down) (dir_pair down hs) ((mem_dir down).2 hx) (by simp [hb, hi]) fun y hy hp => by
    simp only [Bool.and_eq_true] at hp
    exact hm y ((mem_dir down).1 hy) hp.1 hp.2
theorem next_none {l : List En} {fr to : ByteArray} {down : Bool} {m : Option En} (h : ∀ y ∈ l, behE down m y = true → inE fr to y = false) : nextE l fr to down m = none :=
  List.find?_eq_none.2 fun y hy hp => by
    simp only [Bool.and_eq_true] at hp
    have := h y ((mem_dir down).1 hy) hp.1
    rw [hp.2] at this
    cases this
theorem next_mem {l : List En} {fr to : ByteArray} {down : Bool} {m : Option En} {x : En} (h : nextE l fr to down m = some x) : x ∈ l ∧ behE down m x = true ∧ inE fr to x = true := by
  have h1 := List.mem_of_find?_eq_some h
  have h2 := List.find?_some h
  simp only [Bool.and_eq_true] at h2
  exact ⟨(mem_dir down).1 h1, h2.1, h2.2⟩
/-- what the tree tells: the first one above. -/
theorem after_is {l : List En} {e x : En} (hs : SortE l) (hx : x ∈ l) (he : cmpE e x < 0) (hm : ∀ y ∈ l, cmpE e y < 0 → y = x ∨ cmpE x y < 0) : afterE e l = some x :=
  find_first (R := fun a b => decide (cmpE a b < 0)) (fun a => by simp [good_cmpE.refl]) (fun a b h => by simp at h ⊢; have := good_cmpE.anti a b; omega) (List.Pairwise.imp (fun {a b} (h : cmpE a b < 0) => by simpa using h) hs) hx (by simpa using he) fun y hy hp => by
    rcases hm y hy (by simpa using hp) with h | h
    · exact .inl h
    · exact .inr (by simpa using h)
theorem after_mem {l : List En} {e x : En} (h : afterE e l = some x) : x ∈ l ∧ cmpE e x < 0 := ⟨List.mem_of_find?_eq_some h, by simpa using List.find?_some h⟩
/-- nothing stands between one and the first one above. -/
theorem after_low {l : List En} {e x : En} (hs : SortE l) (h : afterE e l = some x) : ∀ y ∈ l, cmpE e y < 0 → y = x ∨ cmpE x y < 0 := by
  intro y hy hey
  obtain ⟨hx, hex⟩ := after_mem h
  rcases ltE_total x y with h1 | h1 | h1
  · exact .inr h1
  · exact .inl h1.symm
  · obtain ⟨l1, l2, hl, hn⟩ := (List.find?_eq_some_iff_append.1 h).2
    rw [hl] at hs hy
    rcases List.mem_append.1 hy with h2 | h2
    · have := hn y h2
      simp at this
      omega
    · rcases List.mem_cons.1 h2 with h3 | h3
      · exact .inl h3
      · exact .inr ((List.pairwise_cons.1 (List.pairwise_append.1 hs).2.1).1 y h3)
theorem before_high : ∀ {l : List En} {e x : En}, SortE l → beforeE e l = some x → ∀ y ∈ l, cmpE y e < 0 → y = x ∨ cmpE y x < 0
  | [], _, _, _, h, _, _, _ => by cases h
  | z :: l, e, x, hs, h, y, hy, hye => by
    have h1 := List.pairwise_cons.1 hs
    unfold beforeE at h
    cases hb : beforeE e l with
    | some u =>
      rw [hb] at h
      cases h
      rcases List.mem_cons.1 hy with rfl | hy
      · exact .inr (h1.1 x (before_mem hb).1)
      · exact before_high h1.2 hb y hy hye
    | none =>
      rw [hb] at h
      simp only at h
      split at h
      · cases h
        rcases List.mem_cons.1 hy with rfl | hy
        · exact .inl rfl
        · have := before_some hy hye
          rw [hb] at this
          cases this
      · cases h
theorem before_none {l : List En} {e : En} (h : beforeE e l = none) : ∀ x ∈ l, ¬ cmpE x e < 0 := by
  intro x hx hc
  have := before_some hx hc
  rw [h] at this
  cases this
/-- all that is in a range, in the order in which it comes. -/
def partE (l : List En) (fr to : ByteArray) (down : Bool) : List En := (dirE down l).filter (inE fr to)
/-- the one told last, behind so many. -/
def markE (J : List En) (k : Nat) : Option En := (J.take k).getLast?
theorem mark_zero (J : List En) : markE J 0 = none := by simp [markE]
theorem mark_some {J : List En} {k : Nat} {x : En} (h : J[k]? = some x) : markE J (k + 1) = some x := by
  unfold markE
  rw [List.take_add_one, h]
  simp
theorem mark_stay {J : List En} {k : Nat} (h : J[k]? = none) : markE J (k + 1) = markE J k := by
  unfold markE
  rw [List.take_add_one, h]
  simp
theorem mark_end {J : List En} {k : Nat} (h : J.length ≤ k) : markE J k = J.getLast? := by
  unfold markE
  rw [List.take_of_length_le h]
theorem part_pair {l : List En} (hs : SortE l) (fr to : ByteArray) (down : Bool) : (partE l fr to down).Pairwise (fun a b => goE down a b = true) := (dir_pair down hs).filter _
theorem next_part (l : List En) (fr to : ByteArray) (down : Bool) (m : Option En) : nextE l fr to down m = (partE l fr to down).find? (behE down m) := by
  unfold nextE partE
  rw [List.find?_filter]
  congr 1
  funext e
  cases behE down m e <;> cases inE fr to e <;> simp
/-- one who goes on is told one behind the other. -/
theorem next_mark {l : List En} (hs : SortE l) (fr to : ByteArray) (down : Bool) (k : Nat) : nextE l fr to down (markE (partE l fr to down) k) = (partE l fr to down)[k]? := by
  rw [next_part]
  obtain ⟨J, hJ⟩ : ∃ J, partE l fr to down = J := ⟨_, rfl⟩
  have hp := part_pair hs fr to down
  rw [hJ] at hp ⊢
  have step : ∀ (i : Nat) (x : En), J[i]? = some x → J.find? (behE down (some x)) = J[i + 1]? := fun i x h => find_at (goE_irr down) (goE_asy down) hp h
  cases k with
  | zero =>
    rw [mark_zero]
    cases J with
    | nil => rfl
    | cons x J => rfl
  | succ k =>
    by_cases hk : k < J.length
    · have h1 : J[k]? = some J[k] := List.getElem?_eq_getElem hk
      rw [mark_some h1, step k _ h1]
    · rw [mark_end (by omega)]
      rcases List.eq_nil_or_concat J with h0 | ⟨J', x, h0⟩
      · subst h0; rfl
      · have h2 : J[J'.length]? = some x := by rw [h0]; simp
        have hl : J.length = J'.length + 1 := by rw [h0]; simp
        rw [show J.getLast? = some x by rw [h0]; simp, step _ _ h2, List.getElem?_eq_none (by omega), List.getElem?_eq_none (by omega)]
theorem part_turn (l : List En) (fr to : ByteArray) : (partE l fr to true).reverse = l.filter (inE fr to) := by
  simp [partE, dirE, List.filter_reverse]
theorem part_up (l : List En) (fr to : ByteArray) : partE l fr to false = l.filter (inE fr to) := rfl
theorem len_part (l : List En) (fr to : ByteArray) (down : Bool) : (partE l fr to down).length ≤ l.length := Nat.le_trans (List.length_filter_le _ _) (Nat.le_of_eq (len_dir down))
theorem in_all (e : En) : inE ⟨#[]⟩ ⟨#[]⟩ e = true := by
  have h : ¬ cmpT e.1 ⟨#[]⟩ < 0 := by
    unfold cmpT
    rw [show (⟨#[]⟩ : ByteArray).toList = [] by decide +kernel]
    cases e.1.toList <;> simp [cmpB]
  simp [inE, h, good_cmpT.refl]
theorem part_all (l : List En) (down : Bool) : partE l ⟨#[]⟩ ⟨#[]⟩ down = dirE down l := by
  unfold partE
  exact List.filter_eq_self.2 fun e _ => in_all e
/-- a range is its two parts. -/
theorem part_parts {l : List En} (hs : SortE l) {a b c : ByteArray} (hab : ¬ cmpT b a < 0) (hbc : ¬ cmpT c b < 0) (hb : ¬ cmpT b ⟨#[]⟩ = 0) (hc : ¬ cmpT c ⟨#[]⟩ = 0) :
    partE l a b false ++ partE l b c false = partE l a c false := by
  have key : ∀ {x y z : ByteArray}, cmpT x y < 0 → ¬ cmpT z y < 0 → cmpT x z < 0 := fun {x y z} h1 h2 => good_cmpT.lt_left h1 (by have := good_cmpT.anti y z; omega)
  have key2 : ∀ {x y z : ByteArray}, ¬ cmpT x y < 0 → ¬ cmpT y z < 0 → ¬ cmpT x z < 0 := fun {x y z} h1 h2 h3 => by
    have q1 := good_cmpT.anti x y
    have q2 := good_cmpT.anti y z
    have q3 := good_cmpT.anti x z
    have := good_cmpT.trans z y x (by omega) (by omega)
    have q4 := good_cmpT.anti z x
    omega
  have hin : ∀ {fr to : ByteArray} {e : En}, ¬ cmpT to ⟨#[]⟩ = 0 → (inE fr to e = true ↔ ¬ cmpT e.1 fr < 0 ∧ cmpT e.1 to < 0) := fun {fr to e} h => by simp [inE, h]
  have s1 : SortE (partE l a b false) := List.Pairwise.filter _ hs
  have s2 : SortE (partE l b c false) := List.Pairwise.filter _ hs
  refine sort_ext (List.pairwise_append.2 ⟨s1, s2, fun x hx y hy => ?_⟩) (List.Pairwise.filter _ hs) fun x => ?_
  · have h1 := ((hin hb).1 (List.mem_filter.1 hx).2).2
    have h2 := ((hin hc).1 (List.mem_filter.1 hy).2).1
    have h3 := key h1 h2
    unfold cmpE
    rw [if_neg (by omega)]
    exact h3
  · simp only [List.mem_append, partE, dirE, List.mem_filter, if_neg Bool.false_ne_true]
    constructor
    · rintro (⟨h1, h2⟩ | ⟨h1, h2⟩)
      · have h3 := (hin hb).1 h2
        exact ⟨h1, (hin hc).2 ⟨h3.1, key h3.2 hbc⟩⟩
      · have h3 := (hin hc).1 h2
        exact ⟨h1, (hin hc).2 ⟨key2 h3.1 hab, h3.2⟩⟩
    · rintro ⟨h1, h2⟩
      have h3 := (hin hc).1 h2
      by_cases h4 : cmpT x.1 b < 0
      · exact .inl ⟨h1, (hin hb).2 ⟨h3.1, h4⟩⟩
      · exact .inr ⟨h1, (hin hc).2 ⟨h4, h3.2⟩⟩
end Go.Proofs.Ytoaekmighinmhaa

namespace Go.Proofs.Ytoaekmighinmhaa

abbrev minI : Int := -9223372036854775808
/-- all numbers are numbers of 64 bits, as far as their lower end goes. -/
def LowE (l : List En) : Prop := ∀ x ∈ l, minI ≤ x.2
/-- not behind the range's end where the walk begins. -/
def nearE (fr to : ByteArray) (down : Bool) (e : En) : Prop := if down then cmpT to ⟨#[]⟩ = 0 ∨ cmpT e.1 to < 0 else ¬ cmpT e.1 fr < 0
theorem inE_iff {fr to : ByteArray} {e : En} : inE fr to e = true ↔ ¬ cmpT e.1 fr < 0 ∧ (cmpT to ⟨#[]⟩ = 0 ∨ cmpT e.1 to < 0) := by simp [inE]
theorem inE_near {fr to : ByteArray} {e : En} (h : inE fr to e = true) (down : Bool) : nearE fr to down e := by
  have := inE_iff.1 h
  cases down with
  | false => exact this.1
  | true => exact this.2
theorem key_le {a b : En} (h : cmpE a b < 0) : cmpT a.1 b.1 ≤ 0 := by
  unfold cmpE at h
  split at h <;> omega
theorem lt_of_key {a b : En} (h : cmpT a.1 b.1 < 0) : cmpE a b < 0 := by
  unfold cmpE
  rw [if_neg (by omega)]; exact h
theorem nlt_le {a b : ByteArray} (h : ¬ cmpT a b < 0) : cmpT b a ≤ 0 := by have := good_cmpT.anti a b; omega
theorem le_nlt {a b : ByteArray} (h : cmpT b a ≤ 0) : ¬ cmpT a b < 0 := by have := good_cmpT.anti a b; omega
/-- what is told past the far end is behind all that is in the range. -/
theorem far_out {fr to : ByteArray} {down : Bool} {y z : En} (hn : nearE fr to down y) (ho : inE fr to y = false) (h : z = y ∨ goE down y z = true) : inE fr to z = false := by
  refine Bool.eq_false_iff.2 fun hz => ?_
  rcases h with rfl | h
  · rw [ho] at hz; cases hz
  · have hz' := inE_iff.1 hz
    have ho' : ¬ (inE fr to y = true) := by rw [ho]; exact Bool.false_ne_true
    cases down with
    | false =>
      have h1 : cmpE y z < 0 := by simpa [goE] using h
      have h2 := key_le h1
      refine ho' (inE_iff.2 ⟨hn, ?_⟩)
      rcases hz'.2 with h3 | h3
      · exact .inl h3
      · exact .inr (good_cmpT.lt_right h2 h3)
    | true =>
      have h1 : cmpE z y < 0 := by simpa [goE] using h
      have h2 := key_le h1
      refine ho' (inE_iff.2 ⟨fun h4 => ?_, hn⟩)
      exact hz'.1 (good_cmpT.lt_right h2 h4)
theorem pick {l : List En} {fr to : ByteArray} {down : Bool} {m a : Option En} (hs : SortE l) (h0 : a = none → ∀ z ∈ l, behE down m z = true → inE fr to z = false)
    (h1 : ∀ y, a = some y → y ∈ l ∧ behE down m y = true ∧ nearE fr to down y ∧ ∀ z ∈ l, behE down m z = true → inE fr to z = true → z = y ∨ goE down y z = true) : nextE l fr to down m = a.filter (inE fr to) := by
  cases ha : a with
  | none => rw [next_none (h0 ha)]; rfl
  | some y =>
    obtain ⟨k1, k2, k3, k4⟩ := h1 y ha
    by_cases hi : inE fr to y = true
    · rw [next_is hs k1 k2 hi k4, Option.filter_some, if_pos hi]
    · have hi' : inE fr to y = false := Bool.eq_false_iff.2 hi
      rw [Option.filter_some, if_neg hi]
      refine next_none fun z hz hb => ?_
      by_cases hzi : inE fr to z = true
      · exact far_out k3 hi' (k4 z hz hb hzi)
      · exact Bool.eq_false_iff.2 hzi
/-- one goes on upwards from the one told last. -/
theorem up_on {l : List En} {fr to : ByteArray} {x : En} (hs : SortE l) (hx : ¬ cmpT x.1 fr < 0) : nextE l fr to false (some x) = (afterE x l).filter (inE fr to) := by
  refine pick hs (fun h z hz hb => absurd (by simpa [behE, goE] using hb) (after_none h z hz)) fun y hy => ?_
  obtain ⟨k1, k2⟩ := after_mem hy
  refine ⟨k1, by simpa [behE, goE] using k2, ?_, fun z hz hb _ => ?_⟩
  · show ¬ cmpT y.1 fr < 0
    exact fun h => hx (good_cmpT.lt_right (key_le k2) h)
  · rcases after_low hs hy z hz (by simpa [behE, goE] using hb) with h | h
    · exact .inl h
    · exact .inr (by simpa [goE] using h)
theorem min_le {fr : ByteArray} {z : En} (hz : ¬ cmpT z.1 fr < 0) (h2 : minI ≤ z.2) : z = (fr, minI) ∨ cmpE (fr, minI) z < 0 := by
  have h3 := nlt_le hz
  by_cases h4 : cmpT fr z.1 = 0
  · have h5 := cmpT_eq h4
    rcases Int.lt_or_eq_of_le h2 with h6 | h6
    · right
      unfold cmpE
      rw [if_pos h4]
      show cmpI minI z.2 < 0
      unfold cmpI
      rw [if_pos h6]; decide
    · exact .inl (Prod.ext h5.symm h6.symm)
  · exact .inr (lt_of_key (show cmpT fr z.1 < 0 by omega))
/-- one begins upwards. -/
theorem up_new {l : List En} {fr to : ByteArray} {m : Option En} (hs : SortE l) (hl : LowE l) (hm : ∀ x, m = some x → cmpT x.1 fr < 0) :
    nextE l fr to false m = (if hasE (fr, minI) l then some (fr, minI) else afterE (fr, minI) l).filter (inE fr to) := by
  have hbeh : ∀ z : En, ¬ cmpT z.1 fr < 0 → behE false m z = true := fun z hz => by
    cases m with
    | none => rfl
    | some x =>
      have h1 : cmpE x z < 0 := lt_of_key (good_cmpT.lt_left (hm x rfl) (nlt_le hz))
      simpa [behE, goE] using h1
  have hin : ∀ z ∈ l, inE fr to z = true → z = (fr, minI) ∨ cmpE (fr, minI) z < 0 := fun z hz hi => min_le (inE_iff.1 hi).1 (hl z hz)
  have hr : ¬ cmpT fr fr < 0 := by have := good_cmpT.refl fr; omega
  by_cases hh : hasE (fr, minI) l = true
  · rw [if_pos hh]
    refine pick hs (fun h => by cases h) fun y hy => ?_
    cases hy
    refine ⟨hasE_iff.1 hh, hbeh (fr, minI) hr, hr, fun z hz _ hi => ?_⟩
    rcases hin z hz hi with h | h
    · exact .inl h
    · exact .inr (by simpa [goE] using h)
  · rw [if_neg hh]
    have hne : ∀ z ∈ l, z ≠ (fr, minI) := fun z hz e => hh (hasE_iff.2 (e ▸ hz))
    refine pick hs (fun h z hz _ => ?_) fun y hy => ?_
    · refine Bool.eq_false_iff.2 fun hi => ?_
      rcases hin z hz hi with h2 | h2
      · exact hne z hz h2
      · exact after_none h z hz h2
    · obtain ⟨k1, k2⟩ := after_mem hy
      have k3 : ¬ cmpT y.1 fr < 0 := le_nlt (key_le k2)
      refine ⟨k1, hbeh y k3, k3, fun z hz _ hi => ?_⟩
      rcases hin z hz hi with h | h
      · exact absurd h (hne z hz)
      · rcases after_low hs hy z hz h with h2 | h2
        · exact .inl h2
        · exact .inr (by simpa [goE] using h2)
/-- one goes on downwards from the one told last. -/
theorem down_on {l : List En} {fr to : ByteArray} {x : En} (hs : SortE l) (hx : cmpT to ⟨#[]⟩ = 0 ∨ cmpT x.1 to < 0) : nextE l fr to true (some x) = (beforeE x l).filter (inE fr to) := by
  refine pick hs (fun h z hz hb => absurd (by simpa [behE, goE] using hb) (before_none h z hz)) fun y hy => ?_
  obtain ⟨k1, k2⟩ := before_mem hy
  refine ⟨k1, by simpa [behE, goE] using k2, ?_, fun z hz hb _ => ?_⟩
  · show cmpT to ⟨#[]⟩ = 0 ∨ cmpT y.1 to < 0
    exact hx.imp id fun h => good_cmpT.lt_right (key_le k2) h
  · rcases before_high hs hy z hz (by simpa [behE, goE] using hb) with h | h
    · exact .inl h
    · exact .inr (by simpa [goE] using h)
theorem last_high {l : List En} {y : En} (hs : SortE l) (h : l.getLast? = some y) : ∀ z ∈ l, z = y ∨ cmpE z y < 0 := by
  intro z hz
  obtain ⟨l', rfl⟩ := List.getLast?_eq_some_iff.1 h
  rcases List.mem_append.1 hz with h1 | h1
  · exact .inr ((List.pairwise_append.1 hs).2.2 z h1 y (by simp))
  · exact .inl (by simpa using h1)
/-- one begins downwards, of a range without an upper end. -/
theorem down_all {l : List En} {fr to : ByteArray} (hs : SortE l) (ht : cmpT to ⟨#[]⟩ = 0) : nextE l fr to true none = l.getLast?.filter (inE fr to) := by
  refine pick hs (fun h z hz _ => ?_) fun y hy => ⟨List.mem_of_getLast? hy, rfl, .inl ht, fun z hz _ _ => ?_⟩
  · rw [List.getLast?_eq_none_iff.1 h] at hz; cases hz
  · rcases last_high hs hy z hz with h | h
    · exact .inl h
    · exact .inr (by simpa [goE] using h)
/-- one begins downwards, of a range with an upper end. -/
theorem down_new {l : List En} {fr to : ByteArray} {m : Option En} (hs : SortE l) (hl : LowE l) (ht : ¬ cmpT to ⟨#[]⟩ = 0) (hm : ∀ x, m = some x → ¬ cmpT x.1 to < 0) :
    nextE l fr to true m = (beforeE (to, minI) l).filter (inE fr to) := by
  have hbeh : ∀ z : En, cmpT z.1 to < 0 → behE true m z = true := fun z hz => by
    cases m with
    | none => rfl
    | some x =>
      have h1 : cmpE z x < 0 := lt_of_key (good_cmpT.lt_left hz (nlt_le (hm x rfl)))
      simpa [behE, goE] using h1
  have hin : ∀ z : En, inE fr to z = true → cmpE z (to, minI) < 0 := fun z hi => lt_of_key ((inE_iff.1 hi).2.resolve_left ht)
  refine pick hs (fun h z hz _ => Bool.eq_false_iff.2 fun hi => before_none h z hz (hin z hi)) fun y hy => ?_
  obtain ⟨k1, k2⟩ := before_mem hy
  have k3 : cmpT y.1 to < 0 := by
    rcases Int.lt_or_eq_of_le (key_le k2) with h | h
    · exact h
    · exfalso
      have h2 := hl y k1
      unfold cmpE at k2
      rw [if_pos h] at k2
      have h3 : cmpI y.2 minI < 0 := k2
      unfold cmpI at h3
      rw [if_neg (by omega)] at h3
      split at h3 <;> omega
  refine ⟨k1, hbeh y k3, .inr k3, fun z hz _ hi => ?_⟩
  rcases before_high hs hy z hz (hin z hi) with h | h
  · exact .inl h
  · exact .inr (by simpa [goE] using h)
theorem low_nil : LowE [] := fun _ h => by cases h
theorem low_ins {e : En} {l : List En} (h : LowE l) (he : minI ≤ e.2) : LowE (insE e l) := fun x hx => by
  rcases mem_insE.1 hx with h1 | h1
  · rw [h1]; exact he
  · exact h x h1
theorem low_del {e : En} {l : List En} (h : LowE l) : LowE (delE e l) := fun x hx => h x (mem_delE.1 hx).1
end Go.Proofs.Ytoaekmighinmhaa

namespace Go.Proofs.Ytoaekmighinmhaa
open Go.RowKit

/-- a range and a mark in a block, by their parts. -/
abbrev WkR (W : World) (X T : Nat) (fr to : ByteArray) (dn : Bool) (k : ByteArray) (i : Int) (b : Bool) : Prop :=
  W.heap[X]? = some (.cells #[.pointer (some ⟨T, 0, none⟩), .string fr, .string to, .bool dn, .string k, .int .i64 i, .bool b] 61 (0, 0))
section
variable {W W' w : World} {X T : Nat} {fr to k : ByteArray} {dn b : Bool} {i : Int}
theorem WkR.view (h : WkR W X T fr to dn k i b) : W.cell? ⟨X, 0, none⟩ = some (.pointer (some ⟨T, 0, none⟩)) ∧ W.cell? ⟨X, 1, none⟩ = some (.string fr) ∧ W.cell? ⟨X, 2, none⟩ = some (.string to) ∧ W.cell? ⟨X, 3, none⟩ = some (.bool dn) ∧
    W.cell? ⟨X, 4, none⟩ = some (.string k) ∧ W.cell? ⟨X, 5, none⟩ = some (.int .i64 i) ∧ W.cell? ⟨X, 6, none⟩ = some (.bool b) ∧ (∀ j, W.frozen? ⟨X, j, none⟩ = false) ∧ X < W.heap.size :=
  ⟨by simp [World.cell?, h], by simp [World.cell?, h], by simp [World.cell?, h], by simp [World.cell?, h], by simp [World.cell?, h], by simp [World.cell?, h], by simp [World.cell?, h], fun j => by simp [World.frozen?, h], lt_of_heap h⟩
theorem WkR.below (h : WkR W X T fr to dn k i b) (hb : Below W.heap.size W W') : WkR W' X T fr to dn k i b := (hb.block _ (lt_of_heap h)).trans h
theorem under_any (key : ByteArray) (h : WkR w X T fr to dn k i b) : Calls Try.prog 41 #[.pointer (some ⟨X, 0, none⟩), .string key] w fun r w' => r = .returned (.bool (decide (cmpT key fr < 0))) ∧ w' = w := by
  obtain ⟨-, c1, -⟩ := h.view
  have hl : Op.bytesLess key.toList fr.toList = decide (cmpT key fr < 0) := bytesLess_eq _ _
  generalize decide (cmpT key fr < 0) = r at *
  clear h
  go_enter Try.func41, Try.ntmps41
  go_wp2
  go_ret
  exact ⟨rfl, rfl⟩
theorem empty_cmpT (a : ByteArray) : a.toList.isEmpty = decide (cmpT a ⟨#[]⟩ = 0) := by
  rw [← beq_cmpT, show (⟨#[]⟩ : ByteArray).toList = [] by decide +kernel]
  cases a.toList <;> rfl
theorem over_any (key : ByteArray) (h : WkR w X T fr to dn k i b) : Calls Try.prog 42 #[.pointer (some ⟨X, 0, none⟩), .string key] w fun r w' => r = .returned (.bool (!decide (cmpT to ⟨#[]⟩ = 0) && !decide (cmpT key to < 0))) ∧ w' = w := by
  obtain ⟨-, -, c2, -⟩ := h.view
  have hl : Op.bytesLess key.toList to.toList = decide (cmpT key to < 0) := bytesLess_eq _ _
  have he := empty_cmpT to
  generalize decide (cmpT key to < 0) = r at *
  generalize decide (cmpT to ⟨#[]⟩ = 0) = q at *
  clear h
  cases q with
  | true =>
    have hz : to.toList = [] := List.isEmpty_iff.1 he
    go_enter Try.func42, Try.ntmps42
    go_wp2
    go_ret
    exact ⟨rfl, rfl⟩
  | false =>
    have hz : ¬ to.toList = [] := fun h => by rw [h] at he; cases he
    go_enter Try.func42, Try.ntmps42
    go_wp2
    go_ret
    exact ⟨rfl, rfl⟩
end
end Go.Proofs.Ytoaekmighinmhaa
