/-
  A region whose last operation waits for all others: the region of the others, in any order, then that operation. No conditions beyond those stated.
-/
import Derived.Test.YtjihfbahcebljaaDoorVMem
import Derived.StillTail
import Derived.Deep.RegionHeld3
namespace Go.Proofs.YtjihfbahcebljaaDoor
open Go.RowKit

def HeadPost (T : Act → World → Prop) : Exit → Act → World → Prop
  | .normal, a, w => T a w
  | _, _, _ => False

section
variable {P : Program} {md : Region.Mode} {head : Array Oper} {last : Oper} {Q : Exit → Act → World → Prop} {T : Act → World → Prop}

theorem wp_headPost {o : Oper} {a : Act} {w : World} {K : Act → World → Prop} (hh : o.wp P a w K (HeadPost T)) : o.wp P a w K Q := by
  unfold Oper.wp at *
  generalize (execOp a.eval o).run P w = r at *
  cases r with
  | ok n w' =>
    cases n <;> simp only [Oper.upon] at hh ⊢ <;>
      first
        | exact hh
        | exact Calls.mono hh (fun e w'' he => by cases e <;> first | exact he | exact he.elim | (obtain ⟨_, _, h⟩ := he; exact h.elim))
        | exact Rows.mono hh (fun _ _ he => he)
  | halt x w' => cases x <;> simp only [Oper.upon] at hh ⊢ <;> first | exact hh | exact hh.elim

theorem wpOp_head {i : Nat} {a : Act} {w : World} {K : Act → World → Prop} (hi : i < head.size) (hg : ∀ (i : Nat) (o : Oper), head[i]? = some o → o.guard = none) (hh : wpOp P head (HeadPost T) i K a w) : wpOp P (head.push last) Q i K a w := by
  have h1 : head[i]? = some head[i] := Array.getElem?_eq_getElem hi
  have h2 : (head.push last)[i]? = some head[i] := by rw [Array.getElem?_push_lt hi]
  have h3 : ∀ y, Region.wanted head[i] y = true := fun y => by simp [Region.wanted, hg i _ h1]
  unfold wpOp at *
  simp only [h1, h2, h3, if_true] at hh ⊢
  rcases hh with hh | ⟨_, _, _, hh⟩
  · exact .inl (wp_headPost hh)
  · exact hh.elim

theorem push_getD_lt {l : Array Bool} {i : Nat} {d : Bool} (h : i < l.size) : (l.push false).getD i d = l.getD i d := by
  simp [Array.getElem?_push_lt h, h]
theorem push_getD_false {l : Array Bool} {i : Nat} : (l.push false).getD i false = l.getD i false := by
  rcases Nat.lt_trichotomy i l.size with h | h | h
  · exact push_getD_lt h
  · subst h; simp
  · simp [Array.getElem?_eq_none (show l.size ≤ i by omega), Array.getElem?_eq_none (show (l.push false).size ≤ i by simp; omega)]
theorem push_getD_at {l : Array Bool} {d : Bool} : (l.push false).getD l.size d = false := by simp
theorem push_set {l : Array Bool} {i : Nat} (h : i < l.size) : (l.push false).setIfInBounds i true = (l.setIfInBounds i true).push false := by
  apply Array.ext_getElem?
  intro k
  simp only [Array.getElem?_setIfInBounds, Array.getElem?_push, Array.size_push, Array.size_setIfInBounds]
  by_cases hik : i = k
  · subst hik
    simp [h, show i ≠ l.size by omega, show i < l.size + 1 by omega]
  · simp [hik]

/-- what stands ready among the head's stands ready in the whole, and the other way round. -/
theorem ready_head {listed : Array Bool} (hs : listed.size = head.size) {i : Nat} (hi : i < head.size) : i ∈ Region.ready md (head.push last) (listed.push false) ↔ i ∈ Region.ready md head listed := by
  rw [mem_ready, mem_ready, push_getD_lt (by omega), Array.getElem?_push_lt hi]
  simp only [push_getD_false, Array.getElem?_eq_getElem hi]

/-- where nothing stands ready, all is done. -/
theorem all_listed {listed : Array Bool} (hs : listed.size = head.size) (hb : ∀ (i : Nat) (o : Oper), head[i]? = some o → ∀ e ∈ o.after, Region.binds md e = true → e.on < i) (hr : Region.ready md head listed = []) :
    ∀ i, i < head.size → listed.getD i false = true := by
  intro i
  induction i using Nat.strongRecOn with
  | _ i ih =>
    intro hi
    cases h : listed.getD i false with
    | true => rfl
    | false =>
      have : i ∈ Region.ready md head listed := mem_ready.2 ⟨getD_in (by omega) h, head[i], Array.getElem?_eq_getElem hi, fun e he hbd => by
        have h1 := hb i _ (Array.getElem?_eq_getElem hi) e he hbd
        exact ih e.on h1 (by omega)⟩
      rw [hr] at this
      cases this

theorem ready_last {listed : Array Bool} (hl : ∀ i : Nat, i < head.size → ∃ e ∈ last.after, Region.binds md e = true ∧ e.on = i) (h : head.size ∈ Region.ready md (head.push last) (listed.push false)) :
    ∀ i, i < head.size → listed.getD i false = true := by
  obtain ⟨_, o, ho, hall⟩ := mem_ready.1 h
  simp only [Array.getElem?_push_size, Option.some.injEq] at ho
  subst ho
  intro i hi
  obtain ⟨e, he, hb, hon⟩ := hl i hi
  have := hall e he hb
  rw [push_getD_false, hon] at this
  exact this

theorem wpAny_snoc (hg : ∀ (i : Nat) (o : Oper), head[i]? = some o → o.guard = none) (hb : ∀ (i : Nat) (o : Oper), head[i]? = some o → ∀ e ∈ o.after, Region.binds md e = true → e.on < i)
    (hl : ∀ i : Nat, i < head.size → ∃ e ∈ last.after, Region.binds md e = true ∧ e.on = i) (hn : ∀ e ∈ last.after, Region.binds md e = true → e.on < head.size)
    (hT : ∀ a w, T a w → wpOp P (head.push last) Q head.size (Q .normal) a w) :
    ∀ (fuel : Nat) (listed : Array Bool) (a : Act) (w : World), listed.size = head.size → wpAny P md head (HeadPost T) fuel listed a w → wpAny P md (head.push last) Q (fuel + 1) (listed.push false) a w := by
  have hready : ∀ (listed : Array Bool), listed.size = head.size → (∀ i, i < head.size → listed.getD i false = true) → head.size ∈ Region.ready md (head.push last) (listed.push false) := fun listed hs hall =>
    mem_ready.2 ⟨by rw [← hs]; exact push_getD_at, last, by simp, fun e he hbd => by rw [push_getD_false]; exact hall _ (hn e he hbd)⟩
  have hdone : ∀ (listed : Array Bool), listed.size = head.size → (∀ i, i < head.size → listed.getD i false = true) → Region.ready md (head.push last) ((listed.push false).setIfInBounds head.size true) = [] := fun listed hs hall => by
    refine List.eq_nil_iff_forall_not_mem.2 fun j hj => ?_
    obtain ⟨h1, o, ho, _⟩ := mem_ready.1 hj
    have hj2 : j < head.size + 1 := by have := (Array.getElem?_eq_some_iff.1 ho).1; simpa using this
    by_cases hjn : j = head.size
    · subst hjn
      simp [hs] at h1
    · rw [getD_set_ne true (Ne.symm hjn), push_getD_lt (by omega)] at h1
      have h2 := hall j (by omega)
      rw [getD_both h1] at h2
      cases h2
  have hlast : ∀ (listed : Array Bool) (a : Act) (w : World) (g : Nat), listed.size = head.size → (∀ i, i < head.size → listed.getD i false = true) → T a w →
      wpOp P (head.push last) Q head.size (wpAny P md (head.push last) Q g ((listed.push false).setIfInBounds head.size true)) a w := fun listed a w g hs hall ht =>
    wpOp_mono (fun a' w' hq => by
      have hd := hdone listed hs hall
      cases g with
      | zero => exact ⟨hd, hq⟩
      | succ g => exact ⟨fun _ => hq, fun i hi => by rw [hd] at hi; cases hi⟩) (hT a w ht)
  intro fuel
  induction fuel with
  | zero =>
    intro listed a w hs h
    have hall := all_listed hs hb h.1
    refine ⟨fun h0 => ?_, fun i hi => ?_⟩
    · have := hready listed hs hall; rw [h0] at this; cases this
    · by_cases hin : i < head.size
      · have := (ready_head hs hin).1 hi; rw [h.1] at this; cases this
      · obtain ⟨_, o, ho, _⟩ := mem_ready.1 hi
        have hi2 : i < head.size + 1 := by have := (Array.getElem?_eq_some_iff.1 ho).1; simpa using this
        have : i = head.size := by omega
        subst this
        exact hlast listed a w 0 hs hall h.2
  | succ fuel ih =>
    intro listed a w hs h
    refine ⟨fun h0 => ?_, fun i hi => ?_⟩
    · have h1 : Region.ready md head listed = [] := List.eq_nil_iff_forall_not_mem.2 fun j hj => by
        obtain ⟨_, o, ho, _⟩ := mem_ready.1 hj
        have := (ready_head (last := last) hs (Array.getElem?_eq_some_iff.1 ho).1).2 hj
        rw [h0] at this; cases this
      have := hready listed hs (all_listed hs hb h1); rw [h0] at this; cases this
    · by_cases hin : i < head.size
      · have h1 := wpOp_head (last := last) (Q := Q) hin hg (h.2 i ((ready_head hs hin).1 hi))
        rw [push_set (by omega)]
        exact wpOp_mono (fun a' w' h' => ih _ a' w' (by simpa using hs) h') h1
      · obtain ⟨_, o, ho, _⟩ := mem_ready.1 hi
        have hi2 : i < head.size + 1 := by have := (Array.getElem?_eq_some_iff.1 ho).1; simpa using this
        have : i = head.size := by omega
        subst this
        have hall := ready_last hl hi
        have h1 : Region.ready md head listed = [] := List.eq_nil_iff_forall_not_mem.2 fun j hj => by
          obtain ⟨h2, o', ho', _⟩ := mem_ready.1 hj
          have h3 := hall j (Array.getElem?_eq_some_iff.1 ho').1
          rw [getD_both h2] at h3
          cases h3
        exact hlast listed a w (fuel + 1) hs hall (h.1 h1)

/-- what is asked of such a region, to be reckoned. -/
def snocB (md : Region.Mode) (head : Array Oper) (last : Oper) : Bool :=
  (List.range head.size).all (fun i => match head[i]? with | some o => o.guard.isNone && o.after.all (fun e => !Region.binds md e || decide (e.on < i)) && last.after.any (fun e => Region.binds md e && e.on == i) | none => true) &&
  last.after.all fun e => !Region.binds md e || decide (e.on < head.size)
theorem wp_region_snoc {id : Nat} {a : Act} {w : World} (hm : P.follows .mixedOrders = true) (hB : snocB .any head last = true)
    (h : wpAny P .any head (HeadPost fun a' w' => wpOp P (head.push last) Q head.size (Q .normal) a' w') head.size (Array.replicate head.size false) a { w with drawn := w.drawn + 1 }) : (Code.region id (head.push last) true).wp P Q a w := by
  simp only [snocB, Bool.and_eq_true, List.all_eq_true, List.mem_range] at hB
  obtain ⟨h1, h2⟩ := hB
  refine wp_region_any hm ?_
  have e1 : (head.push last).size = head.size + 1 := by simp
  have e2 : Array.replicate (head.size + 1) false = (Array.replicate head.size false).push false := Array.replicate_succ
  rw [e1, e2]
  refine wpAny_snoc ?_ ?_ ?_ ?_ (fun _ _ ht => ht) _ _ _ _ (by simp) h
  · intro i o ho
    have := h1 i (Array.getElem?_eq_some_iff.1 ho).1
    simp only [ho, Bool.and_eq_true] at this
    simpa using this.1.1
  · intro i o ho e he hb
    have := h1 i (Array.getElem?_eq_some_iff.1 ho).1
    simp only [ho, Bool.and_eq_true] at this
    have := Array.all_eq_true'.1 this.1.2 e he
    simpa [hb] using this
  · intro i hi
    have := h1 i hi
    simp only [Array.getElem?_eq_getElem hi, Bool.and_eq_true] at this
    obtain ⟨e, he, hb⟩ := Array.any_eq_true'.1 this.2
    simp only [Bool.and_eq_true, beq_iff_eq] at hb
    exact ⟨e, he, hb.1, hb.2⟩
  · intro e he hb
    have := Array.all_eq_true'.1 h2 e he
    simpa [hb] using this
theorem wpOp_post {T' : Act → World → Prop} {ops : Array Oper} {i : Nat} {a : Act} {w : World} {K : Act → World → Prop} (h : wpOp P ops (HeadPost T) i K a w) : wpOp P ops (HeadPost T') i K a w := by
  unfold wpOp at *
  split
  · rename_i ho; simp only [ho] at h; exact h
  · rename_i o ho
    simp only [ho] at h
    split
    · rename_i hw
      simp only [hw, if_true] at h
      rcases h with h | ⟨_, _, _, h⟩
      · exact .inl (wp_headPost h)
      · exact h.elim
    · rename_i hw
      simp only [hw] at h
      exact h
theorem wpAnyH_post {S : World → Prop} {T' : Act → World → Prop} {ops : Array Oper} (hT : ∀ a w, T a w → T' a w) : ∀ (fuel : Nat) (listed : Array Bool) (a : Act) (w : World), wpAnyH P md ops (HeadPost T) S fuel listed a w → wpAnyH P md ops (HeadPost T') S fuel listed a w
  | 0, _, _, _, h => ⟨h.1, hT _ _ h.2⟩
  | _ + 1, _, _, _, h => ⟨fun h0 => hT _ _ (h.1 h0), fun i hi => wpOp_mono (fun _ _ h' => ⟨h'.1, wpAnyH_post hT _ _ _ _ h'.2⟩) (wpOp_post (h.2 i hi))⟩
theorem wpOp_push {a : Act} {w : World} {K : Act → World → Prop} (hg : last.guard = none) (h : last.wp P a w K Q) : wpOp P (head.push last) Q head.size K a w := by
  unfold wpOp
  have h3 : ∀ y, Region.wanted last y = true := fun y => by simp [Region.wanted, hg]
  simp only [Array.getElem?_push_size, h3, if_true]
  exact .inl h
/-- the others are held in S; then the last, as it stands. -/
theorem wp_region_snoc_held {S : World → Prop} {id : Nat} {a : Act} {w : World} (hm : P.follows .mixedOrders = true) (hB : snocB .any head last = true) (hg : last.guard = none)
    (h : wpAnyH P .any head (HeadPost fun a' w' => last.wp P a' w' (Q .normal) Q) S head.size (Array.replicate head.size false) a w.drew) : (Code.region id (head.push last) true).wp P Q a w := by
  refine wp_region_snoc hm hB (wpAny_of_held (S := S) _ _ _ _ ?_)
  exact wpAnyH_post (fun a' w' ht => wpOp_push hg ht) _ _ _ _ h
end
end Go.Proofs.YtjihfbahcebljaaDoor
