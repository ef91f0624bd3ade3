/-
  slices.IndexFunc at fields, package value's place and above by their contracts. No conditions beyond those stated.
-/
import Derived.Test.YtgcccihnlecpnaaDoorVTwin3
import Derived.Test.YtgcccihnlecpnaaDoorVCmp3
namespace Go.Proofs.YtgcccihnlecpnaaDoor
open Go.RowKit

/-- where the first one is that is asked for; -1: nowhere. -/
def whereI {α : Type} (p : α → Bool) : List α → Int
  | [] => -1
  | x :: xs => if p x then 0 else if whereI p xs < 0 then -1 else 1 + whereI p xs
theorem whereI_hit {α : Type} (p : α → Bool) : ∀ (k : Nat) (l : List α) (x : α), l[k]? = some x → p x = true → (∀ j y, j < k → l[j]? = some y → p y = false) → whereI p l = k
  | 0, [], _, h, _, _ => by simp at h
  | 0, y :: l, x, h, hp, _ => by simp at h; subst h; simp [whereI, hp]
  | k + 1, [], _, h, _, _ => by simp at h
  | k + 1, y :: l, x, h, hp, hn => by
    have h0 := hn 0 y (by omega) rfl
    have ih := whereI_hit p k l x (by simpa using h) hp fun j z hj hz => hn (j + 1) z (by omega) (by simpa using hz)
    simp only [whereI, h0, ih]
    rw [if_neg (by simp), if_neg (by omega)]
    omega
theorem whereI_miss {α : Type} (p : α → Bool) : ∀ (l : List α), (∀ y ∈ l, p y = false) → whereI p l = -1
  | [], _ => rfl
  | y :: l, h => by
    simp [whereI, h y (by simp), whereI_miss p l fun z hz => h z (by simp [hz])]
theorem whereI_range {α : Type} (p : α → Bool) : ∀ (l : List α), whereI p l = -1 ∨ (0 ≤ whereI p l ∧ whereI p l < l.length)
  | [] => .inl rfl
  | y :: l => by
    have ih := whereI_range p l
    simp only [whereI]
    split
    · right; simp
    · split
      · exact .inl rfl
      · right; simp; omega

set_option maxHeartbeats 2000000 in
theorem IndexFunc_any (g : Nat) (cv : Value) (eg : ∀ args w, (callFunc g args).run Tryd.prog w = .ok (.enter g args) w) (p : ByteArray × V → Bool) (n : Nat) (xs : List Fl) (sa : Value) (w : World)
    (ha : RowAt (fun _ => True) w 39 6 sa xs.length (encFs xs)) (la : ∀ e ∈ xs, Lies n w e.v e.l e.f)
    (hg : ∀ x ∈ xs, ∀ W, Below w.heap.size w W → Calls Tryd.prog g #[.agg #[.string x.name, .int .i64 x.v.kind, .int .i64 x.v.num, .string x.v.text, x.l, x.f], cv] W fun e w' => e = .returned (.bool (p x.pair)) ∧ Below W.heap.size W w') :
    Calls Tryd.prog 37 #[sa, .func (.func g) #[] #[cv]] w fun e w' => e = .returned (.int .i64 (whereI p (xs.map Fl.pair))) ∧ Below w.heap.size w w' := by
  obtain ⟨aa, ca, rfl⟩ := ha.slice
  have na := ha.2.1
  go_enter Tryd.func37, Tryd.ntmps37
  go_wp2
  go_loopg [4, 5, 8] xs.length (fun gg _ _ i wr => ∃ k : Nat, k ≤ xs.length ∧ xs.length - k ≤ gg ∧ i = .int .i64 k ∧ Aside (Below w.heap.size w wr) ∧ Aside (∀ j x, j < k → (xs.map Fl.pair)[j]? = some x → p x = false))
  case atStart => exact ⟨0, Nat.zero_le _, by omega, rfl, Below.refl _ w, fun j _ hj => absurd hj (Nat.not_lt_zero _)⟩
  case round =>
    obtain ⟨k, hk, hgg, rfl, BW, A⟩ := hrel
    by_cases hlt : k < xs.length
    · obtain ⟨b, c', e1, hbl, _, hc1, hc2, _⟩ := ha.cells (by omega)
      simp only [Value.slice.injEq, true_and] at e1
      obtain ⟨rfl, rfl⟩ := e1
      obtain ⟨⟨xn, xv, xl, xf⟩, hx⟩ : ∃ x, xs[k]? = some x := ⟨_, List.getElem?_eq_getElem hlt⟩
      have hm : ∀ b, True → b < w.heap.size → True ∧ wr.heap[b]? = w.heap[b]? := fun b _ h => ⟨trivial, BW.out.block b h⟩
      obtain ⟨a0, a1, a2, a3, a4, a5⟩ := (ha.move hm).fl hx
      have hlx : Lies n wr xv xl xf := (la _ (List.mem_of_getElem? hx)).below BW.out
      have HX : Aside ((xs.map Fl.pair)[k]? = some (xn, xv)) := by show _ = _; rw [List.getElem?_map, hx]; rfl
      simp only at a0 a1 a2 a3 a4 a5
      obtain ⟨al, cl, af, cf, rfl, rfl⟩ := hlx.slices
      have hcall := hg _ (List.mem_of_getElem? hx) wr BW.out
      simp only [Fl.pair] at hcall
      have zk : (k : Int) < (xs.length : Int) := by omega
      clear hx hm hlx la hg ha
      by_cases h0 : p (xn, xv) = true
      · rw [h0] at hcall
        go_wp2_with fail
        refine hcall.mono ?_
        rintro e w' ⟨rfl, hb'⟩
        go_wp2
        go_ret
        refine ⟨?_, BW.out.trans (hb'.mono BW.out.size)⟩
        rw [whereI_hit p k _ _ HX.out h0 A.out]
        rfl
      · have h1 : p (xn, xv) = false := by simpa using h0
        rw [h1] at hcall
        go_wp2_with fail
        refine hcall.mono ?_
        rintro e w' ⟨rfl, hb'⟩
        go_wp2
        go_roundg (xs.length - (k + 1))
        case measure => omega
        case rel =>
          refine ⟨k + 1, by omega, by omega, by go_num, BW.out.trans (hb'.mono BW.out.size), (show Aside _ from fun j x hj hx => ?_)⟩
          by_cases e : j = k
          · subst e
            rw [HX.out] at hx
            cases hx
            exact h1
          · exact A.out j x (by omega) hx
    · have hz : ¬ (k : Int) < (xs.length : Int) := by omega
      clear hg la ha
      go_wp2
      go_ret
      refine ⟨?_, BW.out⟩
      rw [whereI_miss p]
      · rfl
      · intro y hy
        obtain ⟨j, hj⟩ := List.getElem?_of_mem hy
        have := (List.getElem?_eq_some_iff.1 hj).1
        exact A.out j y (by simp at this; omega) hj

theorem beq_cmpT (a b : ByteArray) : (a.toList == b.toList) = decide (cmpT a b = 0) := by
  by_cases h : cmpT a b = 0
  · rw [cmpT_eq h]; simp [good_cmpT.refl]
  · have hne : ¬ a.toList = b.toList := fun e => h (by unfold cmpT; rw [e]; exact good_cmpT.refl b)
    rw [decide_eq_false h]; exact beq_false_of_ne hne
theorem gtr_cmpT (a b : ByteArray) : (!Op.bytesLess a.toList b.toList && !(a.toList == b.toList)) = decide (0 < cmpT a b) := by
  rw [bytesLess_eq, beq_cmpT]
  have : cmpB a.toList b.toList = cmpT a b := rfl
  rw [this]
  by_cases h1 : cmpT a b < 0
  · rw [decide_eq_true h1, decide_eq_false (show ¬ 0 < cmpT a b by omega)]; rfl
  · rw [decide_eq_false h1]
    by_cases h2 : cmpT a b = 0
    · rw [decide_eq_true h2, decide_eq_false (show ¬ 0 < cmpT a b by omega)]; rfl
    · rw [decide_eq_false h2, decide_eq_true (show 0 < cmpT a b by omega)]; rfl

def isName (name : ByteArray) (q : ByteArray × V) : Bool := decide (cmpT q.1 name = 0)
def isAbove (name : ByteArray) (q : ByteArray × V) : Bool := decide (0 < cmpT q.1 name)

/-- ahead of which field a new one is put. -/
def aboveI (name : ByteArray) (fs : List (ByteArray × V)) : Int := if whereI (isAbove name) fs < 0 then fs.length else whereI (isAbove name) fs
end Go.Proofs.YtgcccihnlecpnaaDoor
