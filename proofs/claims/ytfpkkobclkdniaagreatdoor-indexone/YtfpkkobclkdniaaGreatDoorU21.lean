/-
  A region whose last operation waits for all others: the region of the others, in any order, then that operation. No conditions beyond those stated.
  A heap's Next by its contract. No conditions beyond those stated.
  A region whose last operation waits for all others, be it by way of others: the region of the others, in any order, then that operation. No conditions beyond those stated.
-/
import Derived.Test.YtfpkkobclkdniaaGreatDoorU2
import Derived.StillTail
import Derived.Deep.RegionHeld3
import Derived.Test.YtfpkkobclkdniaaGreatDoorU20
import Derived.Test.YtfpkkobclkdniaaGreatDoorU5
import Derived.Deep.DrawnRows
namespace Go.Proofs.YtfpkkobclkdniaaGreatDoor
open Go.RowKit

def HeadPost (T : Act → World → Prop) : Exit → Act → World → Prop
  | .normal, a, w => T a w
  | _, _, _ => False

section
variable {P : Program} {md : Region.Mode} {head : Array Oper} {last : Oper} {Q : Exit → Act → World → Prop} {T : Act → World → Prop}

theorem wp_headPost {o : Oper} {a : Act} {w : World} {K : Act → World → Prop} (hh : o.wp P a w K (HeadPost T)) : o.wp P a w K Q := by
  unfold Oper.wp at *
  generalize (execOp a.eval o).run P w = r at *
  cases r with
  | ok n w' =>
    cases n <;> simp only [Oper.upon] at hh ⊢ <;>
      first
        | exact hh
        | exact Calls.mono hh (fun e w'' he => by cases e <;> first | exact he | exact he.elim | (obtain ⟨_, _, h⟩ := he; exact h.elim))
        | exact Rows.mono hh (fun _ _ he => he)
  | halt x w' => cases x <;> simp only [Oper.upon] at hh ⊢ <;> first | exact hh | exact hh.elim

theorem wpOp_head {i : Nat} {a : Act} {w : World} {K : Act → World → Prop} (hi : i < head.size) (hg : ∀ (i : Nat) (o : Oper), head[i]? = some o → o.guard = none) (hh : wpOp P head (HeadPost T) i K a w) : wpOp P (head.push last) Q i K a w := by
  have h1 : head[i]? = some head[i] := Array.getElem?_eq_getElem hi
  have h2 : (head.push last)[i]? = some head[i] := by rw [Array.getElem?_push_lt hi]
  have h3 : ∀ y, Region.wanted head[i] y = true := fun y => by simp [Region.wanted, hg i _ h1]
  unfold wpOp at *
  simp only [h1, h2, h3, if_true] at hh ⊢
  rcases hh with hh | ⟨_, _, _, hh⟩
  · exact .inl (wp_headPost hh)
  · exact hh.elim

theorem push_getD_lt {l : Array Bool} {i : Nat} {d : Bool} (h : i < l.size) : (l.push false).getD i d = l.getD i d := by
  simp [Array.getElem?_push_lt h, h]
theorem push_getD_false {l : Array Bool} {i : Nat} : (l.push false).getD i false = l.getD i false := by
  rcases Nat.lt_trichotomy i l.size with h | h | h
  · exact push_getD_lt h
  · subst h; simp
  · simp [Array.getElem?_eq_none (show l.size ≤ i by omega), Array.getElem?_eq_none (show (l.push false).size ≤ i by simp; omega)]
theorem push_getD_at {l : Array Bool} {d : Bool} : (l.push false).getD l.size d = false := by simp
theorem push_set {l : Array Bool} {i : Nat} (h : i < l.size) : (l.push false).setIfInBounds i true = (l.setIfInBounds i true).push false := by
  apply Array.ext_getElem?
  intro k
  simp only [Array.getElem?_setIfInBounds, Array.getElem?_push, Array.size_push, Array.size_setIfInBounds]
  by_cases hik : i = k
  · subst hik
    simp [h, show i ≠ l.size by omega, show i < l.size + 1 by omega]
  · simp [hik]

/-- what stands ready among the head's stands ready in the whole, and the other way round. -/
theorem ready_head {listed : Array Bool} (hs : listed.size = head.size) {i : Nat} (hi : i < head.size) : i ∈ Region.ready md (head.push last) (listed.push false) ↔ i ∈ Region.ready md head listed := by
  rw [mem_ready, mem_ready, push_getD_lt (by omega), Array.getElem?_push_lt hi]
  simp only [push_getD_false, Array.getElem?_eq_getElem hi]

/-- where nothing stands ready, all is done. -/
theorem all_listed {listed : Array Bool} (hs : listed.size = head.size) (hb : ∀ (i : Nat) (o : Oper), head[i]? = some o → ∀ e ∈ o.after, Region.binds md e = true → e.on < i) (hr : Region.ready md head listed = []) :
    ∀ i, i < head.size → listed.getD i false = true := by
  intro i
  induction i using Nat.strongRecOn with
  | _ i ih =>
    intro hi
    cases h : listed.getD i false with
    | true => rfl
    | false =>
      have : i ∈ Region.ready md head listed := mem_ready.2 ⟨getD_in (by omega) h, head[i], Array.getElem?_eq_getElem hi, fun e he hbd => by
        have h1 := hb i _ (Array.getElem?_eq_getElem hi) e he hbd
        exact ih e.on h1 (by omega)⟩
      rw [hr] at this
      cases this

theorem ready_last {listed : Array Bool} (hl : ∀ i : Nat, i < head.size → ∃ e ∈ last.after, Region.binds md e = true ∧ e.on = i) (h : head.size ∈ Region.ready md (head.push last) (listed.push false)) :
    ∀ i, i < head.size → listed.getD i false = true := by
  obtain ⟨_, o, ho, hall⟩ := mem_ready.1 h
  simp only [Array.getElem?_push_size, Option.some.injEq] at ho
  subst ho
  intro i hi
  obtain ⟨e, he, hb, hon⟩ := hl i hi
  have := hall e he hb
  rw [push_getD_false, hon] at this
  exact this

theorem wpAny_snoc (hg : ∀ (i : Nat) (o : Oper), head[i]? = some o → o.guard = none) (hb : ∀ (i : Nat) (o : Oper), head[i]? = some o → ∀ e ∈ o.after, Region.binds md e = true → e.on < i)
    (hl : ∀ i : Nat, i < head.size → ∃ e ∈ last.after, Region.binds md e = true ∧ e.on = i) (hn : ∀ e ∈ last.after, Region.binds md e = true → e.on < head.size)
    (hT : ∀ a w, T a w → wpOp P (head.push last) Q head.size (Q .normal) a w) :
    ∀ (fuel : Nat) (listed : Array Bool) (a : Act) (w : World), listed.size = head.size → wpAny P md head (HeadPost T) fuel listed a w → wpAny P md (head.push last) Q (fuel + 1) (listed.push false) a w := by
  have hready : ∀ (listed : Array Bool), listed.size = head.size → (∀ i, i < head.size → listed.getD i false = true) → head.size ∈ Region.ready md (head.push last) (listed.push false) := fun listed hs hall =>
    mem_ready.2 ⟨by rw [← hs]; exact push_getD_at, last, by simp, fun e he hbd => by rw [push_getD_false]; exact hall _ (hn e he hbd)⟩
  have hdone : ∀ (listed : Array Bool), listed.size = head.size → (∀ i, i < head.size → listed.getD i false = true) → Region.ready md (head.push last) ((listed.push false).setIfInBounds head.size true) = [] := fun listed hs hall => by
    refine List.eq_nil_iff_forall_not_mem.2 fun j hj => ?_
    obtain ⟨h1, o, ho, _⟩ := mem_ready.1 hj
    have hj2 : j < head.size + 1 := by have := (Array.getElem?_eq_some_iff.1 ho).1; simpa using this
    by_cases hjn : j = head.size
    · subst hjn
      simp [hs] at h1
    · rw [getD_set_ne true (Ne.symm hjn), push_getD_lt (by omega)] at h1
      have h2 := hall j (by omega)
      rw [getD_both h1] at h2
      cases h2
  have hlast : ∀ (listed : Array Bool) (a : Act) (w : World) (g : Nat), listed.size = head.size → (∀ i, i < head.size → listed.getD i false = true) → T a w →
      wpOp P (head.push last) Q head.size (wpAny P md (head.push last) Q g ((listed.push false).setIfInBounds head.size true)) a w := fun listed a w g hs hall ht =>
    wpOp_mono (fun a' w' hq => by
      have hd := hdone listed hs hall
      cases g with
      | zero => exact ⟨hd, hq⟩
      | succ g => exact ⟨fun _ => hq, fun i hi => by rw [hd] at hi; cases hi⟩) (hT a w ht)
  intro fuel
  induction fuel with
  | zero =>
    intro listed a w hs h
    have hall := all_listed hs hb h.1
    refine ⟨fun h0 => ?_, fun i hi => ?_⟩
    · have := hready listed hs hall; rw [h0] at this; cases this
    · by_cases hin : i < head.size
      · have := (ready_head hs hin).1 hi; rw [h.1] at this; cases this
      · obtain ⟨_, o, ho, _⟩ := mem_ready.1 hi
        have hi2 : i < head.size + 1 := by have := (Array.getElem?_eq_some_iff.1 ho).1; simpa using this
        have : i = head.size := by omega
        subst this
        exact hlast listed a w 0 hs hall h.2
  | succ fuel ih =>
    intro listed a w hs h
    refine ⟨fun h0 => ?_, fun i hi => ?_⟩
    · have h1 : Region.ready md head listed = [] := List.eq_nil_iff_forall_not_mem.2 fun j hj => by
        obtain ⟨_, o, ho, _⟩ := mem_ready.1 hj
        have := (ready_head (last := last) hs (Array.getElem?_eq_some_iff.1 ho).1).2 hj
        rw [h0] at this; cases this
      have := hready listed hs (all_listed hs hb h1); rw [h0] at this; cases this
    · by_cases hin : i < head.size
      · have h1 := wpOp_head (last := last) (Q := Q) hin hg (h.2 i ((ready_head hs hin).1 hi))
        rw [push_set (by omega)]
        exact wpOp_mono (fun a' w' h' => ih _ a' w' (by simpa using hs) h') h1
      · obtain ⟨_, o, ho, _⟩ := mem_ready.1 hi
        have hi2 : i < head.size + 1 := by have := (Array.getElem?_eq_some_iff.1 ho).1; simpa using this
        have : i = head.size := by omega
        subst this
        have hall := ready_last hl hi
        have h1 : Region.ready md head listed = [] := List.eq_nil_iff_forall_not_mem.2 fun j hj => by
          obtain ⟨h2, o', ho', _⟩ := mem_ready.1 hj
          have h3 := hall j (Array.getElem?_eq_some_iff.1 ho').1
          rw [getD_both h2] at h3
          cases h3
        exact hlast listed a w (fuel + 1) hs hall (h.1 h1)

/-- what is asked of such a region, to be reckoned. -/
def snocB (md : Region.Mode) (head : Array Oper) (last : Oper) : Bool :=
  (List.range head.size).all (fun i => match head[i]? with | some o => o.guard.isNone && o.after.all (fun e => !Region.binds md e || decide (e.on < i)) && last.after.any (fun e => Region.binds md e && e.on == i) | none => true) &&
  last.after.all fun e => !Region.binds md e || decide (e.on < head.size)
theorem wp_region_snoc {id : Nat} {a : Act} {w : World} (hm : P.follows .mixedOrders = true) (hB : snocB .any head last = true)
    (h : wpAny P .any head (HeadPost fun a' w' => wpOp P (head.push last) Q head.size (Q .normal) a' w') head.size (Array.replicate head.size false) a { w with drawn := w.drawn + 1 }) : (Code.region id (head.push last) true).wp P Q a w := by
  simp only [snocB, Bool.and_eq_true, List.all_eq_true, List.mem_range] at hB
  obtain ⟨h1, h2⟩ := hB
  refine wp_region_any hm ?_
  have e1 : (head.push last).size = head.size + 1 := by simp
  have e2 : Array.replicate (head.size + 1) false = (Array.replicate head.size false).push false := Array.replicate_succ
  rw [e1, e2]
  refine wpAny_snoc ?_ ?_ ?_ ?_ (fun _ _ ht => ht) _ _ _ _ (by simp) h
  · intro i o ho
    have := h1 i (Array.getElem?_eq_some_iff.1 ho).1
    simp only [ho, Bool.and_eq_true] at this
    simpa using this.1.1
  · intro i o ho e he hb
    have := h1 i (Array.getElem?_eq_some_iff.1 ho).1
    simp only [ho, Bool.and_eq_true] at this
    have := Array.all_eq_true'.1 this.1.2 e he
    simpa [hb] using this
  · intro i hi
    have := h1 i hi
    simp only [Array.getElem?_eq_getElem hi, Bool.and_eq_true] at this
    obtain ⟨e, he, hb⟩ := Array.any_eq_true'.1 this.2
    simp only [Bool.and_eq_true, beq_iff_eq] at hb
    exact ⟨e, he, hb.1, hb.2⟩
  · intro e he hb
    have := Array.all_eq_true'.1 h2 e he
    simpa [hb] using this
theorem wpOp_post {T' : Act → World → Prop} {ops : Array Oper} {i : Nat} {a : Act} {w : World} {K : Act → World → Prop} (h : wpOp P ops (HeadPost T) i K a w) : wpOp P ops (HeadPost T') i K a w := by
  unfold wpOp at *
  split
  · rename_i ho; simp only [ho] at h; exact h
  · rename_i o ho
    simp only [ho] at h
    split
    · rename_i hw
      simp only [hw, if_true] at h
      rcases h with h | ⟨_, _, _, h⟩
      · exact .inl (wp_headPost h)
      · exact h.elim
    · rename_i hw
      simp only [hw] at h
      exact h
theorem wpAnyH_post {S : World → Prop} {T' : Act → World → Prop} {ops : Array Oper} (hT : ∀ a w, T a w → T' a w) : ∀ (fuel : Nat) (listed : Array Bool) (a : Act) (w : World), wpAnyH P md ops (HeadPost T) S fuel listed a w → wpAnyH P md ops (HeadPost T') S fuel listed a w
  | 0, _, _, _, h => ⟨h.1, hT _ _ h.2⟩
  | _ + 1, _, _, _, h => ⟨fun h0 => hT _ _ (h.1 h0), fun i hi => wpOp_mono (fun _ _ h' => ⟨h'.1, wpAnyH_post hT _ _ _ _ h'.2⟩) (wpOp_post (h.2 i hi))⟩
theorem wpOp_push {a : Act} {w : World} {K : Act → World → Prop} (hg : last.guard = none) (h : last.wp P a w K Q) : wpOp P (head.push last) Q head.size K a w := by
  unfold wpOp
  have h3 : ∀ y, Region.wanted last y = true := fun y => by simp [Region.wanted, hg]
  simp only [Array.getElem?_push_size, h3, if_true]
  exact .inl h
/-- the others are held in S; then the last, as it stands. -/
theorem wp_region_snoc_held {S : World → Prop} {id : Nat} {a : Act} {w : World} (hm : P.follows .mixedOrders = true) (hB : snocB .any head last = true) (hg : last.guard = none)
    (h : wpAnyH P .any head (HeadPost fun a' w' => last.wp P a' w' (Q .normal) Q) S head.size (Array.replicate head.size false) a w.drew) : (Code.region id (head.push last) true).wp P Q a w := by
  refine wp_region_snoc hm hB (wpAny_of_held (S := S) _ _ _ _ ?_)
  exact wpAnyH_post (fun a' w' ht => wpOp_push hg ht) _ _ _ _ h
end
end Go.Proofs.YtfpkkobclkdniaaGreatDoor

namespace Go.Proofs.YtfpkkobclkdniaaGreatDoor
open Go.RowKit

theorem Below.drop_drewH {B : Nat} {w W : World} (h : Below B w.drew W) : Below B w W := ⟨h.os, h.tape, h.output, h.size, h.block⟩
/-- all blocks but one stay as they were. -/
def Oth (B : Nat) (w w' : World) : Prop := ∀ b, b < w.heap.size → b ≠ B → w'.heap[b]? = w.heap[b]?
theorem Oth.cell {B : Nat} {w w' : World} (h : Oth B w w') {b o : Nat} {u : Value} (hc : w.cell? ⟨b, o, none⟩ = some u) (hb : b ≠ B) : w'.cell? ⟨b, o, none⟩ = some u := by
  rw [World.cell?_of_block (w := w) (h b (lt_of_cell hc) hb)]; exact hc
theorem setCell_six {W : World} {B : Nat} (a0 a1 a2 a3 a4 a5 : Value) {k : Nat} (h : k ≠ B) : ((((((W.setCell ⟨B, 0, none⟩ a0).setCell ⟨B, 1, none⟩ a1).setCell ⟨B, 2, none⟩ a2).setCell ⟨B, 3, none⟩ a3).setCell ⟨B, 4, none⟩ a4).setCell ⟨B, 5, none⟩ a5).heap[k]? = W.heap[k]? := by
  rw [Below.heap_setCell _ _ _ _ h, Below.heap_setCell _ _ _ _ h, Below.heap_setCell _ _ _ _ h, Below.heap_setCell _ _ _ _ h, Below.heap_setCell _ _ _ _ h, Below.heap_setCell _ _ _ _ h]
theorem set_six_below {w W : World} {B C : Nat} (hb : Below C w W) (h : C ≤ B) (a0 a1 a2 a3 a4 a5 : Value) : Below C w ((((((W.setCell ⟨B, 0, none⟩ a0).setCell ⟨B, 1, none⟩ a1).setCell ⟨B, 2, none⟩ a2).setCell ⟨B, 3, none⟩ a3).setCell ⟨B, 4, none⟩ a4).setCell ⟨B, 5, none⟩ a5) :=
  (((((hb.setCell h _).setCell h _).setCell h _).setCell h _).setCell h _).setCell h _

section
variable {base B : Nat} {rs : List Rec} {last lo : Int}
set_option maxRecDepth 100000 in
set_option maxHeartbeats 2000000 in
theorem NextD_none (k : Int) (w : World) (h : HeapAt base w B rs last) (hr : RisesR lo rs) (hn : rs.length ≤ 1000000) (hg : nextR k rs = none) :
    Calls Tryz.prog 43 #[.pointer (some ⟨B, 0, none⟩), .int .i64 k] w fun e w' => e = .returned (.tuple #[.agg #[.int .i64 0, .int .i64 0, .int .i64 0, .string ⟨#[]⟩, .slice none 0 0, .slice none 0 0], .bool false]) ∧ Below w.heap.size w w' := by
  have hpl := fun W (hW : Below w.heap.size w W) => placeH_any k W (h.below hW) hr hn
  have hal := ahead_le k rs
  rw [next_isR k rs hr, List.getElem?_eq_none_iff] at hg
  have hend := fun e : aheadH k rs = rs.length => ahead_end hr e
  obtain ⟨j, hj⟩ : ∃ j, aheadH k rs = j := ⟨_, rfl⟩
  rw [hj] at hpl hg hal hend
  have HH : Hid (HeapAt base w B rs last) := h
  obtain ⟨p, hp⟩ : ∃ p, (getR k rs).isSome = p := ⟨_, rfl⟩
  rw [hp] at hg hpl
  have zp : p = true → (j : Int) + 1 = (rs.length : Int) := by
    intro e
    rw [if_pos e] at hg
    rcases Nat.lt_or_ge j rs.length with h1 | h1
    · omega
    · have e2 := hend (by omega)
      rw [e2] at hp
      rw [← hp] at e
      cases e
  have zq : p = false → j = rs.length := by
    intro e
    rw [if_neg (by rw [e]; simp)] at hg
    omega
  clear h hr hj hg hal hend hp
  cases p
  · obtain rfl := zq rfl
    clear zp zq
    go_enter Tryz.func43, Tryz.ntmps43
    go_wp2_with fail
    refine (hpl _ ((Below.refl _ _).alloc (Nat.le_refl _) _)).mono ?_
    rintro e w1 ⟨rfl, hb1⟩
    have hB : Below w.heap.size w w1 := ((Below.refl _ _).alloc (Nat.le_refl _) _).trans (hb1.mono (by simp))
    have r1 := row_below hb1 (heap_alloc_new w _)
    have hh1 : HeapAt base w1 B rs last := HeapAt.below HH.out hB
    obtain ⟨a, c, c0, c1⟩ := hh1.head
    obtain ⟨x0, x1, x2, x3, x4, x5, xf⟩ := row6 r1
    clear hpl hb1 r1 hh1
    go_wp2
    refine bodyPost_ret (v := .tuple #[.agg #[.int .i64 0, .int .i64 0, .int .i64 0, .string ⟨#[]⟩, .slice none 0 0, .slice none 0 0], .bool false]) (by simp [results, Tryz.results43, go_sem, x0, x1, x2, x3, x4, x5]) rfl ⟨rfl, ?_⟩
    exact set_six_below hB (Nat.le_refl _) _ _ _ _ _ _
  · have zk := zp rfl
    have zm : wrap64 ((j : Int) + 1) = (rs.length : Int) := by unfold wrap64; omega
    clear zp zq
    go_enter Tryz.func43, Tryz.ntmps43
    go_wp2_with fail
    refine (hpl _ ((Below.refl _ _).alloc (Nat.le_refl _) _)).mono ?_
    rintro e w1 ⟨rfl, hb1⟩
    have hB : Below w.heap.size w w1 := ((Below.refl _ _).alloc (Nat.le_refl _) _).trans (hb1.mono (by simp))
    have r1 := row_below hb1 (heap_alloc_new w _)
    have hh1 : HeapAt base w1 B rs last := HeapAt.below HH.out hB
    obtain ⟨a, c, c0, c1⟩ := hh1.head
    obtain ⟨x0, x1, x2, x3, x4, x5, xf⟩ := row6 r1
    clear hpl hb1 r1 hh1
    go_wp2
    refine bodyPost_ret (v := .tuple #[.agg #[.int .i64 0, .int .i64 0, .int .i64 0, .string ⟨#[]⟩, .slice none 0 0, .slice none 0 0], .bool false]) (by simp [results, Tryz.results43, go_sem, x0, x1, x2, x3, x4, x5]) rfl ⟨rfl, ?_⟩
    exact set_six_below hB (Nat.le_refl _) _ _ _ _ _ _

attribute [local go_sem ↓] Go.wp_at_zero Go.wp_at_succ
set_option maxRecDepth 100000 in
set_option maxHeartbeats 8000000 in
/-- the walk from behind the place on. -/
theorem NextD_some (k : Int) (x : Rec) (w : World) (h : HeapAt base w B rs last) (hr : RisesR lo rs) (hn : rs.length ≤ 1000000) (hg : nextR k rs = some x) :
    Calls Tryz.prog 43 #[.pointer (some ⟨B, 0, none⟩), .int .i64 k] w fun e w' => ∃ l f, e = .returned (.tuple #[.agg #[.int .i64 x.1, .int .i64 x.2.kind, .int .i64 x.2.num, .string x.2.text, l, f], .bool true]) ∧ Lies 5 w' x.2 l f ∧ Below w.heap.size w w' := by
  have hpl := fun W (hW : Below w.heap.size w W) => placeH_any k W (h.below hW) hr hn
  rw [next_isR k rs hr] at hg
  obtain ⟨j, hj⟩ : ∃ j, aheadH k rs = j := ⟨_, rfl⟩
  rw [hj] at hpl hg
  obtain ⟨xi, xv⟩ := x
  have HH : Hid (HeapAt base w B rs last) := h
  obtain ⟨p, hp⟩ : ∃ p, (getR k rs).isSome = p := ⟨_, rfl⟩
  rw [hp] at hg hpl
  clear h hr hj hp
  cases p
  · rw [if_neg (by simp)] at hg
    have zj : (j : Int) < (rs.length : Int) := by have := (List.getElem?_eq_some_iff.1 hg).1; omega
    go_enter Tryz.func43, Tryz.ntmps43
    go_wp2_with fail
    refine (hpl _ ((Below.refl _ _).alloc (Nat.le_refl _) _)).mono ?_
    rintro e w1 ⟨rfl, hb1⟩
    have hB : Below w.heap.size w w1 := ((Below.refl _ _).alloc (Nat.le_refl _) _).trans (hb1.mono (by simp))
    have r1 := row_below hb1 (heap_alloc_new w _)
    have hh1 : HeapAt base w1 B rs last := HeapAt.below HH.out hB
    obtain ⟨D, c, al, cl, af, cf, c0, hD, hbD, hc1, hc2, a0, a1, a2, a3, a4, a5, hli⟩ := hh1.at hg hn
    obtain ⟨q0, q1, q2, q3, q4, q5, qf⟩ := row6 r1
    have zw : w.heap.size < w1.heap.size := lt_of_heap r1
    have H1 := (show Hid _ from And.intro hB (And.intro r1 hli))
    clear hpl hb1 r1 hh1 hli hB
    simp only at a0 a1 a2 a3 a4 a5
    go_wp2
    obtain ⟨W, hW⟩ : ∃ W, w1.alloc (.cells #[.int .i64 xi, .int .i64 xv.kind, .int .i64 xv.num, .string xv.text, .slice al xv.list.length cl, .slice af xv.fields.length cf] 94) = W := ⟨_, rfl⟩
    have hWn : W.heap[w1.heap.size]? = some (.cells #[.int .i64 xi, .int .i64 xv.kind, .int .i64 xv.num, .string xv.text, .slice al xv.list.length cl, .slice af xv.fields.length cf] 94 (0, 0)) := by rw [← hW]; exact heap_alloc_new _ _
    have hBW : Below w1.heap.size w1 W := by rw [← hW]; exact (Below.refl _ _).alloc (Nat.le_refl _) _
    rw [hW]
    obtain ⟨p0, p1, p2, p3, p4, p5, pf⟩ := row6 hWn
    have zne : w1.heap.size ≠ w.heap.size := by omega
    have P0 := fun w' (h : Oth w.heap.size W w') => h.cell p0 zne
    have P1 := fun w' (h : Oth w.heap.size W w') => h.cell p1 zne
    have P2 := fun w' (h : Oth w.heap.size W w') => h.cell p2 zne
    have P3 := fun w' (h : Oth w.heap.size W w') => h.cell p3 zne
    have P4 := fun w' (h : Oth w.heap.size W w') => h.cell p4 zne
    have P5 := fun w' (h : Oth w.heap.size W w') => h.cell p5 zne
    have R1 := row_below hBW H1.out.2.1
    have Z1 := lt_of_heap hWn
    have H2 := (show Hid _ from And.intro hBW (And.intro R1 Z1))
    have hli2 : Lies 4 W.drew xv (.slice al xv.list.length cl) (.slice af xv.fields.length cf) := Lies.below hBW H1.out.2.2
    have htw := twinValue_any 4 xv _ _ W.drew hli2
    clear p0 p1 p2 p3 p4 p5 pf a0 a1 a2 a3 a4 a5 c0 q0 q1 q2 q3 q4 q5 qf hWn hBW R1 hW hli2
    have h0 : Oth w.heap.size W W.drew := fun _ _ _ => rfl
    refine wp_region_snoc_held (S := fun w' => Oth w.heap.size W w') (head := #[_, _, _, _, _, _, _]) (last := ⟨_, _, _, _, _, _⟩) mixed (by kernel_rfl) rfl ?_
    refine wpAnyH_take (i := 0) (oi := ⟨_, _, _, _, _, _⟩) (v := ?v0) rfl (by kernel_rfl) (by kernel_rfl) (by kernel_rfl) (fun _ _ _ h => h) (Or.inl ⟨by rfl, ?hy0⟩) h0 ?rest0
    case hy0 => (intro w hSw; (try dsimp only at hSw); go_simp; try with_reducible rfl)
    simp only [Act.put, List.setIfInBounds_toArray, List.set_cons_zero, List.set_cons_succ]
    refine wpAnyH_take (i := 1) (oi := ⟨_, _, _, _, _, _⟩) (v := ?v1) rfl (by kernel_rfl) (by kernel_rfl) (by kernel_rfl) (fun _ _ _ h => h) (Or.inl ⟨by rfl, ?hy1⟩) h0 ?rest1
    case hy1 => (intro w hSw; (try dsimp only at hSw); go_simp; try with_reducible rfl)
    simp only [Act.put, List.setIfInBounds_toArray, List.set_cons_zero, List.set_cons_succ]
    refine wpAnyH_take (i := 2) (oi := ⟨_, _, _, _, _, _⟩) (v := ?v2) rfl (by kernel_rfl) (by kernel_rfl) (by kernel_rfl) (fun _ _ _ h => h) (Or.inl ⟨by rfl, ?hy2⟩) h0 ?rest2
    case hy2 => (intro w hSw; (try dsimp only at hSw); go_simp; try with_reducible rfl)
    simp only [Act.put, List.setIfInBounds_toArray, List.set_cons_zero, List.set_cons_succ]
    refine wpAnyH_take (i := 3) (oi := ⟨_, _, _, _, _, _⟩) (v := ?v3) rfl (by kernel_rfl) (by kernel_rfl) (by kernel_rfl) (fun _ _ _ h => h) (Or.inl ⟨by rfl, ?hy3⟩) h0 ?rest3
    case hy3 => (intro w hSw; (try dsimp only at hSw); go_simp; try with_reducible rfl)
    simp only [Act.put, List.setIfInBounds_toArray, List.set_cons_zero, List.set_cons_succ]
    refine wpAnyH_ready (rs := [4]) (by kernel_rfl) (by simp) ?_
    refine AllReadyH.cons (o := ⟨_, _, _, _, _, _⟩) rfl (fun K hK => ?_) AllReadyH.nil
    go_simp
    refine htw.mono ?_
    rintro e w2 ⟨l', f', rfl, hcp, hb2⟩
    have hrep := hcp.rep
    obtain ⟨al', cl', af', cf', rfl, rfl⟩ := hrep.slices
    have h2 : Oth w.heap.size W w2 := fun b hb _ => hb2.block b hb
    refine hK.out _ _ h2 (fun hHeld => ?_)
    clear hK K hHeld
    try simp only [Act.put, List.setIfInBounds_toArray, List.set_cons_zero, List.set_cons_succ]
    refine wpAnyH_ready (rs := [5]) (by kernel_rfl) (by simp) ?_
    refine AllReadyH.cons (o := ⟨_, _, _, _, _, _⟩) rfl (fun K hK => ?_) AllReadyH.nil
    go_simp
    refine hK.out _ _ h2 (fun hHeld => ?_)
    clear hK K hHeld
    try simp only [Act.put, List.setIfInBounds_toArray, List.set_cons_zero, List.set_cons_succ]
    have r2 : w2.heap[w.heap.size]? = _ := (hb2.block w.heap.size (by have := H2.out.2.2; show _ < W.heap.size; omega)).trans H2.out.2.1
    obtain ⟨x0, x1, x2, x3, x4, x5, xf⟩ := row6 r2
    refine wpAnyH_ready (rs := [6]) (by kernel_rfl) (by simp) ?_
    refine AllReadyH.cons (o := ⟨_, _, _, _, _, _⟩) rfl (fun K hK => ?_) AllReadyH.nil
    go_simp
    refine hK.out _ _ (fun b hb hbn => (setCell_six _ _ _ _ _ _ hbn).trans (h2 b hb hbn)) (fun hHeld => ?_)
    clear hK K hHeld
    try simp only [Act.put, List.setIfInBounds_toArray, List.set_cons_zero, List.set_cons_succ]
    refine wpAnyH_done (by kernel_rfl) ?_ _
    have H3 := (show Hid _ from And.intro hrep hb2)
    clear hrep hcp hb2 r2 h2 h0 htw P0 P1 P2 P3 P4 P5
    show Oper.wp _ _ _ _ _ _
    go_simp
    go_wp2
    refine bodyPost_ret (v := .tuple #[.agg #[.int .i64 xi, .int .i64 xv.kind, .int .i64 xv.num, .string xv.text, .slice al' xv.list.length cl', .slice af' xv.fields.length cf'], .bool true]) (by simp [results, Tryz.results43, go_sem, x0, x1, x2, x3, x4, x5]) rfl ⟨_, _, rfl, ?_, ?_⟩
    · exact H3.out.1.move fun b hb _ => ⟨trivial, setCell_six _ _ _ _ _ _ (by have := H2.out.2.2; have hb : W.heap.size ≤ b := hb; omega)⟩
    · have hB1 : Below w.heap.size w W := H1.out.1.trans (H2.out.1.mono H1.out.1.size)
      have hB2 : Below w.heap.size w w2 := hB1.trans ((Below.drop_drewH H3.out.2).mono hB1.size)
      exact set_six_below hB2 (Nat.le_refl _) _ _ _ _ _ _
  · rw [if_pos rfl] at hg
    have zj : (j : Int) + 1 < (rs.length : Int) := by have := (List.getElem?_eq_some_iff.1 hg).1; omega
    have zm : wrap64 ((j : Int) + 1) = (j : Int) + 1 := by unfold wrap64; omega
    go_enter Tryz.func43, Tryz.ntmps43
    go_wp2_with fail
    refine (hpl _ ((Below.refl _ _).alloc (Nat.le_refl _) _)).mono ?_
    rintro e w1 ⟨rfl, hb1⟩
    have hB : Below w.heap.size w w1 := ((Below.refl _ _).alloc (Nat.le_refl _) _).trans (hb1.mono (by simp))
    have r1 := row_below hb1 (heap_alloc_new w _)
    have hh1 : HeapAt base w1 B rs last := HeapAt.below HH.out hB
    obtain ⟨D, c, al, cl, af, cf, c0, hD, hbD, hc1, hc2, a0, a1, a2, a3, a4, a5, hli⟩ := hh1.at hg hn
    obtain ⟨q0, q1, q2, q3, q4, q5, qf⟩ := row6 r1
    have zw : w.heap.size < w1.heap.size := lt_of_heap r1
    have H1 := (show Hid _ from And.intro hB (And.intro r1 hli))
    clear hpl hb1 r1 hh1 hli hB
    simp only at a0 a1 a2 a3 a4 a5
    go_wp2
    obtain ⟨W, hW⟩ : ∃ W, w1.alloc (.cells #[.int .i64 xi, .int .i64 xv.kind, .int .i64 xv.num, .string xv.text, .slice al xv.list.length cl, .slice af xv.fields.length cf] 94) = W := ⟨_, rfl⟩
    have hWn : W.heap[w1.heap.size]? = some (.cells #[.int .i64 xi, .int .i64 xv.kind, .int .i64 xv.num, .string xv.text, .slice al xv.list.length cl, .slice af xv.fields.length cf] 94 (0, 0)) := by rw [← hW]; exact heap_alloc_new _ _
    have hBW : Below w1.heap.size w1 W := by rw [← hW]; exact (Below.refl _ _).alloc (Nat.le_refl _) _
    rw [hW]
    obtain ⟨p0, p1, p2, p3, p4, p5, pf⟩ := row6 hWn
    have zne : w1.heap.size ≠ w.heap.size := by omega
    have P0 := fun w' (h : Oth w.heap.size W w') => h.cell p0 zne
    have P1 := fun w' (h : Oth w.heap.size W w') => h.cell p1 zne
    have P2 := fun w' (h : Oth w.heap.size W w') => h.cell p2 zne
    have P3 := fun w' (h : Oth w.heap.size W w') => h.cell p3 zne
    have P4 := fun w' (h : Oth w.heap.size W w') => h.cell p4 zne
    have P5 := fun w' (h : Oth w.heap.size W w') => h.cell p5 zne
    have R1 := row_below hBW H1.out.2.1
    have Z1 := lt_of_heap hWn
    have H2 := (show Hid _ from And.intro hBW (And.intro R1 Z1))
    have hli2 : Lies 4 W.drew xv (.slice al xv.list.length cl) (.slice af xv.fields.length cf) := Lies.below hBW H1.out.2.2
    have htw := twinValue_any 4 xv _ _ W.drew hli2
    clear p0 p1 p2 p3 p4 p5 pf a0 a1 a2 a3 a4 a5 c0 q0 q1 q2 q3 q4 q5 qf hWn hBW R1 hW hli2
    have h0 : Oth w.heap.size W W.drew := fun _ _ _ => rfl
    refine wp_region_snoc_held (S := fun w' => Oth w.heap.size W w') (head := #[_, _, _, _, _, _, _]) (last := ⟨_, _, _, _, _, _⟩) mixed (by kernel_rfl) rfl ?_
    refine wpAnyH_take (i := 0) (oi := ⟨_, _, _, _, _, _⟩) (v := ?vb0) rfl (by kernel_rfl) (by kernel_rfl) (by kernel_rfl) (fun _ _ _ h => h) (Or.inl ⟨by rfl, ?hyb0⟩) h0 ?restb0
    case hyb0 => (intro w hSw; (try dsimp only at hSw); go_simp; try with_reducible rfl)
    simp only [Act.put, List.setIfInBounds_toArray, List.set_cons_zero, List.set_cons_succ]
    refine wpAnyH_take (i := 1) (oi := ⟨_, _, _, _, _, _⟩) (v := ?vb1) rfl (by kernel_rfl) (by kernel_rfl) (by kernel_rfl) (fun _ _ _ h => h) (Or.inl ⟨by rfl, ?hyb1⟩) h0 ?restb1
    case hyb1 => (intro w hSw; (try dsimp only at hSw); go_simp; try with_reducible rfl)
    simp only [Act.put, List.setIfInBounds_toArray, List.set_cons_zero, List.set_cons_succ]
    refine wpAnyH_take (i := 2) (oi := ⟨_, _, _, _, _, _⟩) (v := ?vb2) rfl (by kernel_rfl) (by kernel_rfl) (by kernel_rfl) (fun _ _ _ h => h) (Or.inl ⟨by rfl, ?hyb2⟩) h0 ?restb2
    case hyb2 => (intro w hSw; (try dsimp only at hSw); go_simp; try with_reducible rfl)
    simp only [Act.put, List.setIfInBounds_toArray, List.set_cons_zero, List.set_cons_succ]
    refine wpAnyH_take (i := 3) (oi := ⟨_, _, _, _, _, _⟩) (v := ?vb3) rfl (by kernel_rfl) (by kernel_rfl) (by kernel_rfl) (fun _ _ _ h => h) (Or.inl ⟨by rfl, ?hyb3⟩) h0 ?restb3
    case hyb3 => (intro w hSw; (try dsimp only at hSw); go_simp; try with_reducible rfl)
    simp only [Act.put, List.setIfInBounds_toArray, List.set_cons_zero, List.set_cons_succ]
    refine wpAnyH_ready (rs := [4]) (by kernel_rfl) (by simp) ?_
    refine AllReadyH.cons (o := ⟨_, _, _, _, _, _⟩) rfl (fun K hK => ?_) AllReadyH.nil
    go_simp
    refine htw.mono ?_
    rintro e w2 ⟨l', f', rfl, hcp, hb2⟩
    have hrep := hcp.rep
    obtain ⟨al', cl', af', cf', rfl, rfl⟩ := hrep.slices
    have h2 : Oth w.heap.size W w2 := fun b hb _ => hb2.block b hb
    refine hK.out _ _ h2 (fun hHeld => ?_)
    clear hK K hHeld
    try simp only [Act.put, List.setIfInBounds_toArray, List.set_cons_zero, List.set_cons_succ]
    refine wpAnyH_ready (rs := [5]) (by kernel_rfl) (by simp) ?_
    refine AllReadyH.cons (o := ⟨_, _, _, _, _, _⟩) rfl (fun K hK => ?_) AllReadyH.nil
    go_simp
    refine hK.out _ _ h2 (fun hHeld => ?_)
    clear hK K hHeld
    try simp only [Act.put, List.setIfInBounds_toArray, List.set_cons_zero, List.set_cons_succ]
    have r2 : w2.heap[w.heap.size]? = _ := (hb2.block w.heap.size (by have := H2.out.2.2; show _ < W.heap.size; omega)).trans H2.out.2.1
    obtain ⟨x0, x1, x2, x3, x4, x5, xf⟩ := row6 r2
    refine wpAnyH_ready (rs := [6]) (by kernel_rfl) (by simp) ?_
    refine AllReadyH.cons (o := ⟨_, _, _, _, _, _⟩) rfl (fun K hK => ?_) AllReadyH.nil
    go_simp
    refine hK.out _ _ (fun b hb hbn => (setCell_six _ _ _ _ _ _ hbn).trans (h2 b hb hbn)) (fun hHeld => ?_)
    clear hK K hHeld
    try simp only [Act.put, List.setIfInBounds_toArray, List.set_cons_zero, List.set_cons_succ]
    refine wpAnyH_done (by kernel_rfl) ?_ _
    have H3 := (show Hid _ from And.intro hrep hb2)
    clear hrep hcp hb2 r2 h2 h0 htw P0 P1 P2 P3 P4 P5
    show Oper.wp _ _ _ _ _ _
    go_simp
    go_wp2
    refine bodyPost_ret (v := .tuple #[.agg #[.int .i64 xi, .int .i64 xv.kind, .int .i64 xv.num, .string xv.text, .slice al' xv.list.length cl', .slice af' xv.fields.length cf'], .bool true]) (by simp [results, Tryz.results43, go_sem, x0, x1, x2, x3, x4, x5]) rfl ⟨_, _, rfl, ?_, ?_⟩
    · exact H3.out.1.move fun b hb _ => ⟨trivial, setCell_six _ _ _ _ _ _ (by have := H2.out.2.2; have hb : W.heap.size ≤ b := hb; omega)⟩
    · have hB1 : Below w.heap.size w W := H1.out.1.trans (H2.out.1.mono H1.out.1.size)
      have hB2 : Below w.heap.size w w2 := hB1.trans ((Below.drop_drewH H3.out.2).mono hB1.size)
      exact set_six_below hB2 (Nat.le_refl _) _ _ _ _ _ _
end
end Go.Proofs.YtfpkkobclkdniaaGreatDoor

namespace Go.Proofs.YtfpkkobclkdniaaGreatDoor
open Go.RowKit

section
variable {P : Program} {md : Region.Mode} {head : Array Oper} {last : Oper} {Q : Exit → Act → World → Prop} {T : Act → World → Prop}

/-- what is listed has all that it waits for listed. -/
def Clo (md : Region.Mode) (head : Array Oper) (listed : Array Bool) : Prop := ∀ (j : Nat) (o : Oper), head[j]? = some o → listed.getD j false = true → ∀ e ∈ o.after, Region.binds md e = true → listed.getD e.on false = true
theorem getD_set_self {l : Array Bool} {i : Nat} {d : Bool} (h : i < l.size) : (l.setIfInBounds i true).getD i d = true := by simp [h]
theorem getD_set_other {l : Array Bool} {i k : Nat} {d b : Bool} (h : ¬ k = i) : (l.setIfInBounds i b).getD k d = l.getD k d := by
  rw [Array.getD_eq_getD_getElem?, Array.getD_eq_getD_getElem?, Array.getElem?_setIfInBounds, if_neg (fun e => h e.symm)]
theorem clo_set {listed : Array Bool} (hc : Clo md head listed) {i : Nat} (hr : i ∈ Region.ready md head listed) : Clo md head (listed.setIfInBounds i true) := by
  obtain ⟨h1, o, ho, hall⟩ := mem_ready.1 hr
  have key : ∀ k, listed.getD k false = true → (listed.setIfInBounds i true).getD k false = true := fun k hk => by
    by_cases e : k = i
    · subst e
      rcases Nat.lt_or_ge k listed.size with h | h
      · exact getD_set_self h
      · rw [getD_both h1] at hk; cases hk
    · rw [getD_set_other e]; exact hk
  intro j oj hj hl e he hb
  by_cases hji : j = i
  · subst hji
    rw [ho] at hj
    cases hj
    exact key _ (hall e he hb)
  · rw [getD_set_other hji] at hl
    exact key _ (hc j oj hj hl e he hb)
/-- all that the last waits for, straight or by way of others. -/
def Waits (md : Region.Mode) (head : Array Oper) (last : Oper) : Prop :=
  ∀ i : Nat, i < head.size → (∃ e ∈ last.after, Region.binds md e = true ∧ e.on = i) ∨ ∃ (j : Nat) (o : Oper), i < j ∧ head[j]? = some o ∧ ∃ e ∈ o.after, Region.binds md e = true ∧ e.on = i
theorem ready_last2 {listed : Array Bool} (hc : Clo md head listed) (hl : Waits md head last) (h : head.size ∈ Region.ready md (head.push last) (listed.push false)) :
    ∀ i, i < head.size → listed.getD i false = true := by
  obtain ⟨_, o, ho, hall⟩ := mem_ready.1 h
  simp only [Array.getElem?_push_size, Option.some.injEq] at ho
  subst ho
  have key : ∀ m i, head.size - i = m → i < head.size → listed.getD i false = true := by
    intro m
    induction m using Nat.strongRecOn with
    | _ m ih =>
      intro i hm hi
      rcases hl i hi with ⟨e, he, hb, hon⟩ | ⟨j, oj, hij, hj, e, he, hb, hon⟩
      · have := hall e he hb
        rw [push_getD_false, hon] at this
        exact this
      · have hjs : j < head.size := (Array.getElem?_eq_some_iff.1 hj).1
        have := hc j oj hj (ih (head.size - j) (by omega) j rfl hjs) e he hb
        rw [hon] at this
        exact this
  exact fun i hi => key _ i rfl hi

theorem wpAny_snoc2 (hg : ∀ (i : Nat) (o : Oper), head[i]? = some o → o.guard = none) (hb : ∀ (i : Nat) (o : Oper), head[i]? = some o → ∀ e ∈ o.after, Region.binds md e = true → e.on < i)
    (hl : Waits md head last) (hn : ∀ e ∈ last.after, Region.binds md e = true → e.on < head.size)
    (hT : ∀ a w, T a w → wpOp P (head.push last) Q head.size (Q .normal) a w) :
    ∀ (fuel : Nat) (listed : Array Bool) (a : Act) (w : World), listed.size = head.size → Clo md head listed → wpAny P md head (HeadPost T) fuel listed a w → wpAny P md (head.push last) Q (fuel + 1) (listed.push false) a w := by
  have hready : ∀ (listed : Array Bool), listed.size = head.size → (∀ i, i < head.size → listed.getD i false = true) → head.size ∈ Region.ready md (head.push last) (listed.push false) := fun listed hs hall =>
    mem_ready.2 ⟨by rw [← hs]; exact push_getD_at, last, by simp, fun e he hbd => by rw [push_getD_false]; exact hall _ (hn e he hbd)⟩
  have hdone : ∀ (listed : Array Bool), listed.size = head.size → (∀ i, i < head.size → listed.getD i false = true) → Region.ready md (head.push last) ((listed.push false).setIfInBounds head.size true) = [] := fun listed hs hall => by
    refine List.eq_nil_iff_forall_not_mem.2 fun j hj => ?_
    obtain ⟨h1, o, ho, _⟩ := mem_ready.1 hj
    have hj2 : j < head.size + 1 := by have := (Array.getElem?_eq_some_iff.1 ho).1; simpa using this
    by_cases hjn : j = head.size
    · subst hjn
      simp [hs] at h1
    · rw [getD_set_ne true (Ne.symm hjn), push_getD_lt (by omega)] at h1
      have h2 := hall j (by omega)
      rw [getD_both h1] at h2
      cases h2
  have hlast : ∀ (listed : Array Bool) (a : Act) (w : World) (g : Nat), listed.size = head.size → (∀ i, i < head.size → listed.getD i false = true) → T a w →
      wpOp P (head.push last) Q head.size (wpAny P md (head.push last) Q g ((listed.push false).setIfInBounds head.size true)) a w := fun listed a w g hs hall ht =>
    wpOp_mono (fun a' w' hq => by
      have hd := hdone listed hs hall
      cases g with
      | zero => exact ⟨hd, hq⟩
      | succ g => exact ⟨fun _ => hq, fun i hi => by rw [hd] at hi; cases hi⟩) (hT a w ht)
  intro fuel
  induction fuel with
  | zero =>
    intro listed a w hs hc h
    have hall := all_listed hs hb h.1
    refine ⟨fun h0 => ?_, fun i hi => ?_⟩
    · have := hready listed hs hall; rw [h0] at this; cases this
    · by_cases hin : i < head.size
      · have := (ready_head hs hin).1 hi; rw [h.1] at this; cases this
      · obtain ⟨_, o, ho, _⟩ := mem_ready.1 hi
        have hi2 : i < head.size + 1 := by have := (Array.getElem?_eq_some_iff.1 ho).1; simpa using this
        have : i = head.size := by omega
        subst this
        exact hlast listed a w 0 hs hall h.2
  | succ fuel ih =>
    intro listed a w hs hc h
    refine ⟨fun h0 => ?_, fun i hi => ?_⟩
    · have h1 : Region.ready md head listed = [] := List.eq_nil_iff_forall_not_mem.2 fun j hj => by
        obtain ⟨_, o, ho, _⟩ := mem_ready.1 hj
        have := (ready_head (last := last) hs (Array.getElem?_eq_some_iff.1 ho).1).2 hj
        rw [h0] at this; cases this
      have := hready listed hs (all_listed hs hb h1); rw [h0] at this; cases this
    · by_cases hin : i < head.size
      · have h1 := wpOp_head (last := last) (Q := Q) hin hg (h.2 i ((ready_head hs hin).1 hi))
        rw [push_set (by omega)]
        exact wpOp_mono (fun a' w' h' => ih _ a' w' (by simpa using hs) (clo_set hc ((ready_head hs hin).1 hi)) h') h1
      · obtain ⟨_, o, ho, _⟩ := mem_ready.1 hi
        have hi2 : i < head.size + 1 := by have := (Array.getElem?_eq_some_iff.1 ho).1; simpa using this
        have : i = head.size := by omega
        subst this
        have hall := ready_last2 hc hl hi
        have h1 : Region.ready md head listed = [] := List.eq_nil_iff_forall_not_mem.2 fun j hj => by
          obtain ⟨h2, o', ho', _⟩ := mem_ready.1 hj
          have h3 := hall j (Array.getElem?_eq_some_iff.1 ho').1
          rw [getD_both h2] at h3
          cases h3
        exact hlast listed a w (fuel + 1) hs hall (h.1 h1)

/-- what is asked of such a region, to be reckoned. -/
def snocB2 (md : Region.Mode) (head : Array Oper) (last : Oper) : Bool :=
  (List.range head.size).all (fun i => match head[i]? with
    | some o => o.guard.isNone && o.after.all (fun e => !Region.binds md e || decide (e.on < i)) && (last.after.any (fun e => Region.binds md e && e.on == i) ||
        (List.range head.size).any (fun j => decide (i < j) && match head[j]? with | some oj => oj.after.any (fun e => Region.binds md e && e.on == i) | none => false))
    | none => true) &&
  last.after.all fun e => !Region.binds md e || decide (e.on < head.size)
theorem wp_region_snoc2 {id : Nat} {a : Act} {w : World} (hm : P.follows .mixedOrders = true) (hB : snocB2 .any head last = true)
    (h : wpAny P .any head (HeadPost fun a' w' => wpOp P (head.push last) Q head.size (Q .normal) a' w') head.size (Array.replicate head.size false) a { w with drawn := w.drawn + 1 }) : (Code.region id (head.push last) true).wp P Q a w := by
  simp only [snocB2, Bool.and_eq_true, List.all_eq_true, List.mem_range] at hB
  obtain ⟨h1, h2⟩ := hB
  refine wp_region_any hm ?_
  have e1 : (head.push last).size = head.size + 1 := by simp
  have e2 : Array.replicate (head.size + 1) false = (Array.replicate head.size false).push false := Array.replicate_succ
  rw [e1, e2]
  refine wpAny_snoc2 ?_ ?_ ?_ ?_ (fun _ _ ht => ht) _ _ _ _ (by simp) (fun j o _ hl => by rw [Array.getD_eq_getD_getElem?] at hl; simp [Array.getElem?_replicate] at hl; split at hl <;> simp at hl) h
  · intro i o ho
    have := h1 i (Array.getElem?_eq_some_iff.1 ho).1
    simp only [ho, Bool.and_eq_true] at this
    simpa using this.1.1
  · intro i o ho e he hb
    have := h1 i (Array.getElem?_eq_some_iff.1 ho).1
    simp only [ho, Bool.and_eq_true] at this
    have := Array.all_eq_true'.1 this.1.2 e he
    simpa [hb] using this
  · intro i hi
    have := h1 i hi
    simp only [Array.getElem?_eq_getElem hi, Bool.and_eq_true, Bool.or_eq_true, List.any_eq_true, List.mem_range] at this
    rcases this.2 with h3 | ⟨j, hj, h4, h5⟩
    · obtain ⟨e, he, hb⟩ := Array.any_eq_true'.1 h3
      simp only [Bool.and_eq_true, beq_iff_eq] at hb
      exact .inl ⟨e, he, hb.1, hb.2⟩
    · rw [Array.getElem?_eq_getElem hj] at h5
      obtain ⟨e, he, hb⟩ := Array.any_eq_true'.1 h5
      simp only [Bool.and_eq_true, beq_iff_eq] at hb
      exact .inr ⟨j, head[j], by simpa using h4, Array.getElem?_eq_getElem hj, e, he, hb.1, hb.2⟩
  · intro e he hb
    have := Array.all_eq_true'.1 h2 e he
    simpa [hb] using this
/-- the others are held in S; then the last, as it stands. -/
theorem wp_region_snoc_held2 {S : World → Prop} {id : Nat} {a : Act} {w : World} (hm : P.follows .mixedOrders = true) (hB : snocB2 .any head last = true) (hg : last.guard = none)
    (h : wpAnyH P .any head (HeadPost fun a' w' => last.wp P a' w' (Q .normal) Q) S head.size (Array.replicate head.size false) a w.drew) : (Code.region id (head.push last) true).wp P Q a w := by
  refine wp_region_snoc2 hm hB (wpAny_of_held (S := S) _ _ _ _ ?_)
  exact wpAnyH_post (fun a' w' ht => wpOp_push hg ht) _ _ _ _ h
end
end Go.Proofs.YtfpkkobclkdniaaGreatDoor
