/-
  A region whose last operation waits for all others, be it by way of others: the region of the others, in any order, then that operation. No conditions beyond those stated.
-/
import Derived.Test.YtjihfbahcebljaaDoorVSnoc
namespace Go.Proofs.YtjihfbahcebljaaDoor
open Go.RowKit

section
variable {P : Program} {md : Region.Mode} {head : Array Oper} {last : Oper} {Q : Exit → Act → World → Prop} {T : Act → World → Prop}

/-- what is listed has all that it waits for listed. -/
def Clo (md : Region.Mode) (head : Array Oper) (listed : Array Bool) : Prop := ∀ (j : Nat) (o : Oper), head[j]? = some o → listed.getD j false = true → ∀ e ∈ o.after, Region.binds md e = true → listed.getD e.on false = true
theorem getD_set_self {l : Array Bool} {i : Nat} {d : Bool} (h : i < l.size) : (l.setIfInBounds i true).getD i d = true := by simp [h]
theorem getD_set_other {l : Array Bool} {i k : Nat} {d b : Bool} (h : ¬ k = i) : (l.setIfInBounds i b).getD k d = l.getD k d := by
  rw [Array.getD_eq_getD_getElem?, Array.getD_eq_getD_getElem?, Array.getElem?_setIfInBounds, if_neg (fun e => h e.symm)]
theorem clo_set {listed : Array Bool} (hc : Clo md head listed) {i : Nat} (hr : i ∈ Region.ready md head listed) : Clo md head (listed.setIfInBounds i true) := by
  obtain ⟨h1, o, ho, hall⟩ := mem_ready.1 hr
  have key : ∀ k, listed.getD k false = true → (listed.setIfInBounds i true).getD k false = true := fun k hk => by
    by_cases e : k = i
    · subst e
      rcases Nat.lt_or_ge k listed.size with h | h
      · exact getD_set_self h
      · rw [getD_both h1] at hk; cases hk
    · rw [getD_set_other e]; exact hk
  intro j oj hj hl e he hb
  by_cases hji : j = i
  · subst hji
    rw [ho] at hj
    cases hj
    exact key _ (hall e he hb)
  · rw [getD_set_other hji] at hl
    exact key _ (hc j oj hj hl e he hb)
/-- all that the last waits for, straight or by way of others. -/
def Waits (md : Region.Mode) (head : Array Oper) (last : Oper) : Prop :=
  ∀ i : Nat, i < head.size → (∃ e ∈ last.after, Region.binds md e = true ∧ e.on = i) ∨ ∃ (j : Nat) (o : Oper), i < j ∧ head[j]? = some o ∧ ∃ e ∈ o.after, Region.binds md e = true ∧ e.on = i
theorem ready_last2 {listed : Array Bool} (hc : Clo md head listed) (hl : Waits md head last) (h : head.size ∈ Region.ready md (head.push last) (listed.push false)) :
    ∀ i, i < head.size → listed.getD i false = true := by
  obtain ⟨_, o, ho, hall⟩ := mem_ready.1 h
  simp only [Array.getElem?_push_size, Option.some.injEq] at ho
  subst ho
  have key : ∀ m i, head.size - i = m → i < head.size → listed.getD i false = true := by
    intro m
    induction m using Nat.strongRecOn with
    | _ m ih =>
      intro i hm hi
      rcases hl i hi with ⟨e, he, hb, hon⟩ | ⟨j, oj, hij, hj, e, he, hb, hon⟩
      · have := hall e he hb
        rw [push_getD_false, hon] at this
        exact this
      · have hjs : j < head.size := (Array.getElem?_eq_some_iff.1 hj).1
        have := hc j oj hj (ih (head.size - j) (by omega) j rfl hjs) e he hb
        rw [hon] at this
        exact this
  exact fun i hi => key _ i rfl hi

theorem wpAny_snoc2 (hg : ∀ (i : Nat) (o : Oper), head[i]? = some o → o.guard = none) (hb : ∀ (i : Nat) (o : Oper), head[i]? = some o → ∀ e ∈ o.after, Region.binds md e = true → e.on < i)
    (hl : Waits md head last) (hn : ∀ e ∈ last.after, Region.binds md e = true → e.on < head.size)
    (hT : ∀ a w, T a w → wpOp P (head.push last) Q head.size (Q .normal) a w) :
    ∀ (fuel : Nat) (listed : Array Bool) (a : Act) (w : World), listed.size = head.size → Clo md head listed → wpAny P md head (HeadPost T) fuel listed a w → wpAny P md (head.push last) Q (fuel + 1) (listed.push false) a w := by
  have hready : ∀ (listed : Array Bool), listed.size = head.size → (∀ i, i < head.size → listed.getD i false = true) → head.size ∈ Region.ready md (head.push last) (listed.push false) := fun listed hs hall =>
    mem_ready.2 ⟨by rw [← hs]; exact push_getD_at, last, by simp, fun e he hbd => by rw [push_getD_false]; exact hall _ (hn e he hbd)⟩
  have hdone : ∀ (listed : Array Bool), listed.size = head.size → (∀ i, i < head.size → listed.getD i false = true) → Region.ready md (head.push last) ((listed.push false).setIfInBounds head.size true) = [] := fun listed hs hall => by
    refine List.eq_nil_iff_forall_not_mem.2 fun j hj => ?_
    obtain ⟨h1, o, ho, _⟩ := mem_ready.1 hj
    have hj2 : j < head.size + 1 := by have := (Array.getElem?_eq_some_iff.1 ho).1; simpa using this
    by_cases hjn : j = head.size
    · subst hjn
      simp [hs] at h1
    · rw [getD_set_ne true (Ne.symm hjn), push_getD_lt (by omega)] at h1
      have h2 := hall j (by omega)
      rw [getD_both h1] at h2
      cases h2
  have hlast : ∀ (listed : Array Bool) (a : Act) (w : World) (g : Nat), listed.size = head.size → (∀ i, i < head.size → listed.getD i false = true) → T a w →
      wpOp P (head.push last) Q head.size (wpAny P md (head.push last) Q g ((listed.push false).setIfInBounds head.size true)) a w := fun listed a w g hs hall ht =>
    wpOp_mono (fun a' w' hq => by
      have hd := hdone listed hs hall
      cases g with
      | zero => exact ⟨hd, hq⟩
      | succ g => exact ⟨fun _ => hq, fun i hi => by rw [hd] at hi; cases hi⟩) (hT a w ht)
  intro fuel
  induction fuel with
  | zero =>
    intro listed a w hs hc h
    have hall := all_listed hs hb h.1
    refine ⟨fun h0 => ?_, fun i hi => ?_⟩
    · have := hready listed hs hall; rw [h0] at this; cases this
    · by_cases hin : i < head.size
      · have := (ready_head hs hin).1 hi; rw [h.1] at this; cases this
      · obtain ⟨_, o, ho, _⟩ := mem_ready.1 hi
        have hi2 : i < head.size + 1 := by have := (Array.getElem?_eq_some_iff.1 ho).1; simpa using this
        have : i = head.size := by omega
        subst this
        exact hlast listed a w 0 hs hall h.2
  | succ fuel ih =>
    intro listed a w hs hc h
    refine ⟨fun h0 => ?_, fun i hi => ?_⟩
    · have h1 : Region.ready md head listed = [] := List.eq_nil_iff_forall_not_mem.2 fun j hj => by
        obtain ⟨_, o, ho, _⟩ := mem_ready.1 hj
        have := (ready_head (last := last) hs (Array.getElem?_eq_some_iff.1 ho).1).2 hj
        rw [h0] at this; cases this
      have := hready listed hs (all_listed hs hb h1); rw [h0] at this; cases this
    · by_cases hin : i < head.size
      · have h1 := wpOp_head (last := last) (Q := Q) hin hg (h.2 i ((ready_head hs hin).1 hi))
        rw [push_set (by omega)]
        exact wpOp_mono (fun a' w' h' => ih _ a' w' (by simpa using hs) (clo_set hc ((ready_head hs hin).1 hi)) h') h1
      · obtain ⟨_, o, ho, _⟩ := mem_ready.1 hi
        have hi2 : i < head.size + 1 := by have := (Array.getElem?_eq_some_iff.1 ho).1; simpa using this
        have : i = head.size := by omega
        subst this
        have hall := ready_last2 hc hl hi
        have h1 : Region.ready md head listed = [] := List.eq_nil_iff_forall_not_mem.2 fun j hj => by
          obtain ⟨h2, o', ho', _⟩ := mem_ready.1 hj
          have h3 := hall j (Array.getElem?_eq_some_iff.1 ho').1
          rw [getD_both h2] at h3
          cases h3
        exact hlast listed a w (fuel + 1) hs hall (h.1 h1)

/-- what is asked of such a region, to be reckoned. -/
def snocB2 (md : Region.Mode) (head : Array Oper) (last : Oper) : Bool :=
  (List.range head.size).all (fun i => match head[i]? with
    | some o => o.guard.isNone && o.after.all (fun e => !Region.binds md e || decide (e.on < i)) && (last.after.any (fun e => Region.binds md e && e.on == i) ||
        (List.range head.size).any (fun j => decide (i < j) && match head[j]? with | some oj => oj.after.any (fun e => Region.binds md e && e.on == i) | none => false))
    | none => true) &&
  last.after.all fun e => !Region.binds md e || decide (e.on < head.size)
theorem wp_region_snoc2 {id : Nat} {a : Act} {w : World} (hm : P.follows .mixedOrders = true) (hB : snocB2 .any head last = true)
    (h : wpAny P .any head (HeadPost fun a' w' => wpOp P (head.push last) Q head.size (Q .normal) a' w') head.size (Array.replicate head.size false) a { w with drawn := w.drawn + 1 }) : (Code.region id (head.push last) true).wp P Q a w := by
  simp only [snocB2, Bool.and_eq_true, List.all_eq_true, List.mem_range] at hB
  obtain ⟨h1, h2⟩ := hB
  refine wp_region_any hm ?_
  have e1 : (head.push last).size = head.size + 1 := by simp
  have e2 : Array.replicate (head.size + 1) false = (Array.replicate head.size false).push false := Array.replicate_succ
  rw [e1, e2]
  refine wpAny_snoc2 ?_ ?_ ?_ ?_ (fun _ _ ht => ht) _ _ _ _ (by simp) (fun j o _ hl => by rw [Array.getD_eq_getD_getElem?] at hl; simp [Array.getElem?_replicate] at hl; split at hl <;> simp at hl) h
  · intro i o ho
    have := h1 i (Array.getElem?_eq_some_iff.1 ho).1
    simp only [ho, Bool.and_eq_true] at this
    simpa using this.1.1
  · intro i o ho e he hb
    have := h1 i (Array.getElem?_eq_some_iff.1 ho).1
    simp only [ho, Bool.and_eq_true] at this
    have := Array.all_eq_true'.1 this.1.2 e he
    simpa [hb] using this
  · intro i hi
    have := h1 i hi
    simp only [Array.getElem?_eq_getElem hi, Bool.and_eq_true, Bool.or_eq_true, List.any_eq_true, List.mem_range] at this
    rcases this.2 with h3 | ⟨j, hj, h4, h5⟩
    · obtain ⟨e, he, hb⟩ := Array.any_eq_true'.1 h3
      simp only [Bool.and_eq_true, beq_iff_eq] at hb
      exact .inl ⟨e, he, hb.1, hb.2⟩
    · rw [Array.getElem?_eq_getElem hj] at h5
      obtain ⟨e, he, hb⟩ := Array.any_eq_true'.1 h5
      simp only [Bool.and_eq_true, beq_iff_eq] at hb
      exact .inr ⟨j, head[j], by simpa using h4, Array.getElem?_eq_getElem hj, e, he, hb.1, hb.2⟩
  · intro e he hb
    have := Array.all_eq_true'.1 h2 e he
    simpa [hb] using this
/-- the others are held in S; then the last, as it stands. -/
theorem wp_region_snoc_held2 {S : World → Prop} {id : Nat} {a : Act} {w : World} (hm : P.follows .mixedOrders = true) (hB : snocB2 .any head last = true) (hg : last.guard = none)
    (h : wpAnyH P .any head (HeadPost fun a' w' => last.wp P a' w' (Q .normal) Q) S head.size (Array.replicate head.size false) a w.drew) : (Code.region id (head.push last) true).wp P Q a w := by
  refine wp_region_snoc2 hm hB (wpAny_of_held (S := S) _ _ _ _ ?_)
  exact wpAnyH_post (fun a' w' ht => wpOp_push hg ht) _ _ _ _ h
end
end Go.Proofs.YtjihfbahcebljaaDoor
