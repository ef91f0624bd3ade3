/-
  A region whose last operation waits for all others: the region of the others, in any order, then that operation. No conditions beyond those stated.
  package value's Set of a field that is not there, by its contract. Condition: there is room for one more field (fewer than a million).
-/
import Derived.Test.YtgcccihnlecpnaaGreatDoorU2
import Derived.StillTail
import Derived.Deep.RegionHeld3
import Derived.Test.YtgcccihnlecpnaaGreatDoorU10
import Derived.Deep.DrawnRows
import Derived.Test.YtgcccihnlecpnaaGreatDoorU7
namespace Go.Proofs.YtgcccihnlecpnaaGreatDoor
open Go.RowKit

def HeadPost (T : Act → World → Prop) : Exit → Act → World → Prop
  | .normal, a, w => T a w
  | _, _, _ => False

section
variable {P : Program} {md : Region.Mode} {head : Array Oper} {last : Oper} {Q : Exit → Act → World → Prop} {T : Act → World → Prop}

theorem wp_headPost {o : Oper} {a : Act} {w : World} {K : Act → World → Prop} (hh : o.wp P a w K (HeadPost T)) : o.wp P a w K Q := by
  unfold Oper.wp at *
  generalize (execOp a.eval o).run P w = r at *
  cases r with
  | ok n w' =>
    cases n <;> simp only [Oper.upon] at hh ⊢ <;>
      first
        | exact hh
        | exact Calls.mono hh (fun e w'' he => by cases e <;> first | exact he | exact he.elim | (obtain ⟨_, _, h⟩ := he; exact h.elim))
        | exact Rows.mono hh (fun _ _ he => he)
  | halt x w' => cases x <;> simp only [Oper.upon] at hh ⊢ <;> first | exact hh | exact hh.elim

theorem wpOp_head {i : Nat} {a : Act} {w : World} {K : Act → World → Prop} (hi : i < head.size) (hg : ∀ (i : Nat) (o : Oper), head[i]? = some o → o.guard = none) (hh : wpOp P head (HeadPost T) i K a w) : wpOp P (head.push last) Q i K a w := by
  have h1 : head[i]? = some head[i] := Array.getElem?_eq_getElem hi
  have h2 : (head.push last)[i]? = some head[i] := by rw [Array.getElem?_push_lt hi]
  have h3 : ∀ y, Region.wanted head[i] y = true := fun y => by simp [Region.wanted, hg i _ h1]
  unfold wpOp at *
  simp only [h1, h2, h3, if_true] at hh ⊢
  rcases hh with hh | ⟨_, _, _, hh⟩
  · exact .inl (wp_headPost hh)
  · exact hh.elim

theorem push_getD_lt {l : Array Bool} {i : Nat} {d : Bool} (h : i < l.size) : (l.push false).getD i d = l.getD i d := by
  simp [Array.getElem?_push_lt h, h]
theorem push_getD_false {l : Array Bool} {i : Nat} : (l.push false).getD i false = l.getD i false := by
  rcases Nat.lt_trichotomy i l.size with h | h | h
  · exact push_getD_lt h
  · subst h; simp
  · simp [Array.getElem?_eq_none (show l.size ≤ i by omega), Array.getElem?_eq_none (show (l.push false).size ≤ i by simp; omega)]
theorem push_getD_at {l : Array Bool} {d : Bool} : (l.push false).getD l.size d = false := by simp
theorem push_set {l : Array Bool} {i : Nat} (h : i < l.size) : (l.push false).setIfInBounds i true = (l.setIfInBounds i true).push false := by
  apply Array.ext_getElem?
  intro k
  simp only [Array.getElem?_setIfInBounds, Array.getElem?_push, Array.size_push, Array.size_setIfInBounds]
  by_cases hik : i = k
  · subst hik
    simp [h, show i ≠ l.size by omega, show i < l.size + 1 by omega]
  · simp [hik]

/-- what stands ready among the head's stands ready in the whole, and the other way round. -/
theorem ready_head {listed : Array Bool} (hs : listed.size = head.size) {i : Nat} (hi : i < head.size) : i ∈ Region.ready md (head.push last) (listed.push false) ↔ i ∈ Region.ready md head listed := by
  rw [mem_ready, mem_ready, push_getD_lt (by omega), Array.getElem?_push_lt hi]
  simp only [push_getD_false, Array.getElem?_eq_getElem hi]

/-- where nothing stands ready, all is done. -/
theorem all_listed {listed : Array Bool} (hs : listed.size = head.size) (hb : ∀ (i : Nat) (o : Oper), head[i]? = some o → ∀ e ∈ o.after, Region.binds md e = true → e.on < i) (hr : Region.ready md head listed = []) :
    ∀ i, i < head.size → listed.getD i false = true := by
  intro i
  induction i using Nat.strongRecOn with
  | _ i ih =>
    intro hi
    cases h : listed.getD i false with
    | true => rfl
    | false =>
      have : i ∈ Region.ready md head listed := mem_ready.2 ⟨getD_in (by omega) h, head[i], Array.getElem?_eq_getElem hi, fun e he hbd => by
        have h1 := hb i _ (Array.getElem?_eq_getElem hi) e he hbd
        exact ih e.on h1 (by omega)⟩
      rw [hr] at this
      cases this

theorem ready_last {listed : Array Bool} (hl : ∀ i : Nat, i < head.size → ∃ e ∈ last.after, Region.binds md e = true ∧ e.on = i) (h : head.size ∈ Region.ready md (head.push last) (listed.push false)) :
    ∀ i, i < head.size → listed.getD i false = true := by
  obtain ⟨_, o, ho, hall⟩ := mem_ready.1 h
  simp only [Array.getElem?_push_size, Option.some.injEq] at ho
  subst ho
  intro i hi
  obtain ⟨e, he, hb, hon⟩ := hl i hi
  have := hall e he hb
  rw [push_getD_false, hon] at this
  exact this

theorem wpAny_snoc (hg : ∀ (i : Nat) (o : Oper), head[i]? = some o → o.guard = none) (hb : ∀ (i : Nat) (o : Oper), head[i]? = some o → ∀ e ∈ o.after, Region.binds md e = true → e.on < i)
    (hl : ∀ i : Nat, i < head.size → ∃ e ∈ last.after, Region.binds md e = true ∧ e.on = i) (hn : ∀ e ∈ last.after, Region.binds md e = true → e.on < head.size)
    (hT : ∀ a w, T a w → wpOp P (head.push last) Q head.size (Q .normal) a w) :
    ∀ (fuel : Nat) (listed : Array Bool) (a : Act) (w : World), listed.size = head.size → wpAny P md head (HeadPost T) fuel listed a w → wpAny P md (head.push last) Q (fuel + 1) (listed.push false) a w := by
  have hready : ∀ (listed : Array Bool), listed.size = head.size → (∀ i, i < head.size → listed.getD i false = true) → head.size ∈ Region.ready md (head.push last) (listed.push false) := fun listed hs hall =>
    mem_ready.2 ⟨by rw [← hs]; exact push_getD_at, last, by simp, fun e he hbd => by rw [push_getD_false]; exact hall _ (hn e he hbd)⟩
  have hdone : ∀ (listed : Array Bool), listed.size = head.size → (∀ i, i < head.size → listed.getD i false = true) → Region.ready md (head.push last) ((listed.push false).setIfInBounds head.size true) = [] := fun listed hs hall => by
    refine List.eq_nil_iff_forall_not_mem.2 fun j hj => ?_
    obtain ⟨h1, o, ho, _⟩ := mem_ready.1 hj
    have hj2 : j < head.size + 1 := by have := (Array.getElem?_eq_some_iff.1 ho).1; simpa using this
    by_cases hjn : j = head.size
    · subst hjn
      simp [hs] at h1
    · rw [getD_set_ne true (Ne.symm hjn), push_getD_lt (by omega)] at h1
      have h2 := hall j (by omega)
      rw [getD_both h1] at h2
      cases h2
  have hlast : ∀ (listed : Array Bool) (a : Act) (w : World) (g : Nat), listed.size = head.size → (∀ i, i < head.size → listed.getD i false = true) → T a w →
      wpOp P (head.push last) Q head.size (wpAny P md (head.push last) Q g ((listed.push false).setIfInBounds head.size true)) a w := fun listed a w g hs hall ht =>
    wpOp_mono (fun a' w' hq => by
      have hd := hdone listed hs hall
      cases g with
      | zero => exact ⟨hd, hq⟩
      | succ g => exact ⟨fun _ => hq, fun i hi => by rw [hd] at hi; cases hi⟩) (hT a w ht)
  intro fuel
  induction fuel with
  | zero =>
    intro listed a w hs h
    have hall := all_listed hs hb h.1
    refine ⟨fun h0 => ?_, fun i hi => ?_⟩
    · have := hready listed hs hall; rw [h0] at this; cases this
    · by_cases hin : i < head.size
      · have := (ready_head hs hin).1 hi; rw [h.1] at this; cases this
      · obtain ⟨_, o, ho, _⟩ := mem_ready.1 hi
        have hi2 : i < head.size + 1 := by have := (Array.getElem?_eq_some_iff.1 ho).1; simpa using this
        have : i = head.size := by omega
        subst this
        exact hlast listed a w 0 hs hall h.2
  | succ fuel ih =>
    intro listed a w hs h
    refine ⟨fun h0 => ?_, fun i hi => ?_⟩
    · have h1 : Region.ready md head listed = [] := List.eq_nil_iff_forall_not_mem.2 fun j hj => by
        obtain ⟨_, o, ho, _⟩ := mem_ready.1 hj
        have := (ready_head (last := last) hs (Array.getElem?_eq_some_iff.1 ho).1).2 hj
        rw [h0] at this; cases this
      have := hready listed hs (all_listed hs hb h1); rw [h0] at this; cases this
    · by_cases hin : i < head.size
      · have h1 := wpOp_head (last := last) (Q := Q) hin hg (h.2 i ((ready_head hs hin).1 hi))
        rw [push_set (by omega)]
        exact wpOp_mono (fun a' w' h' => ih _ a' w' (by simpa using hs) h') h1
      · obtain ⟨_, o, ho, _⟩ := mem_ready.1 hi
        have hi2 : i < head.size + 1 := by have := (Array.getElem?_eq_some_iff.1 ho).1; simpa using this
        have : i = head.size := by omega
        subst this
        have hall := ready_last hl hi
        have h1 : Region.ready md head listed = [] := List.eq_nil_iff_forall_not_mem.2 fun j hj => by
          obtain ⟨h2, o', ho', _⟩ := mem_ready.1 hj
          have h3 := hall j (Array.getElem?_eq_some_iff.1 ho').1
          rw [getD_both h2] at h3
          cases h3
        exact hlast listed a w (fuel + 1) hs hall (h.1 h1)

/-- what is asked of such a region, to be reckoned. -/
def snocB (md : Region.Mode) (head : Array Oper) (last : Oper) : Bool :=
  (List.range head.size).all (fun i => match head[i]? with | some o => o.guard.isNone && o.after.all (fun e => !Region.binds md e || decide (e.on < i)) && last.after.any (fun e => Region.binds md e && e.on == i) | none => true) &&
  last.after.all fun e => !Region.binds md e || decide (e.on < head.size)
theorem wp_region_snoc {id : Nat} {a : Act} {w : World} (hm : P.follows .mixedOrders = true) (hB : snocB .any head last = true)
    (h : wpAny P .any head (HeadPost fun a' w' => wpOp P (head.push last) Q head.size (Q .normal) a' w') head.size (Array.replicate head.size false) a { w with drawn := w.drawn + 1 }) : (Code.region id (head.push last) true).wp P Q a w := by
  simp only [snocB, Bool.and_eq_true, List.all_eq_true, List.mem_range] at hB
  obtain ⟨h1, h2⟩ := hB
  refine wp_region_any hm ?_
  have e1 : (head.push last).size = head.size + 1 := by simp
  have e2 : Array.replicate (head.size + 1) false = (Array.replicate head.size false).push false := Array.replicate_succ
  rw [e1, e2]
  refine wpAny_snoc ?_ ?_ ?_ ?_ (fun _ _ ht => ht) _ _ _ _ (by simp) h
  · intro i o ho
    have := h1 i (Array.getElem?_eq_some_iff.1 ho).1
    simp only [ho, Bool.and_eq_true] at this
    simpa using this.1.1
  · intro i o ho e he hb
    have := h1 i (Array.getElem?_eq_some_iff.1 ho).1
    simp only [ho, Bool.and_eq_true] at this
    have := Array.all_eq_true'.1 this.1.2 e he
    simpa [hb] using this
  · intro i hi
    have := h1 i hi
    simp only [Array.getElem?_eq_getElem hi, Bool.and_eq_true] at this
    obtain ⟨e, he, hb⟩ := Array.any_eq_true'.1 this.2
    simp only [Bool.and_eq_true, beq_iff_eq] at hb
    exact ⟨e, he, hb.1, hb.2⟩
  · intro e he hb
    have := Array.all_eq_true'.1 h2 e he
    simpa [hb] using this
theorem wpOp_post {T' : Act → World → Prop} {ops : Array Oper} {i : Nat} {a : Act} {w : World} {K : Act → World → Prop} (h : wpOp P ops (HeadPost T) i K a w) : wpOp P ops (HeadPost T') i K a w := by
  unfold wpOp at *
  split
  · rename_i ho; simp only [ho] at h; exact h
  · rename_i o ho
    simp only [ho] at h
    split
    · rename_i hw
      simp only [hw, if_true] at h
      rcases h with h | ⟨_, _, _, h⟩
      · exact .inl (wp_headPost h)
      · exact h.elim
    · rename_i hw
      simp only [hw] at h
      exact h
theorem wpAnyH_post {S : World → Prop} {T' : Act → World → Prop} {ops : Array Oper} (hT : ∀ a w, T a w → T' a w) : ∀ (fuel : Nat) (listed : Array Bool) (a : Act) (w : World), wpAnyH P md ops (HeadPost T) S fuel listed a w → wpAnyH P md ops (HeadPost T') S fuel listed a w
  | 0, _, _, _, h => ⟨h.1, hT _ _ h.2⟩
  | _ + 1, _, _, _, h => ⟨fun h0 => hT _ _ (h.1 h0), fun i hi => wpOp_mono (fun _ _ h' => ⟨h'.1, wpAnyH_post hT _ _ _ _ h'.2⟩) (wpOp_post (h.2 i hi))⟩
theorem wpOp_push {a : Act} {w : World} {K : Act → World → Prop} (hg : last.guard = none) (h : last.wp P a w K Q) : wpOp P (head.push last) Q head.size K a w := by
  unfold wpOp
  have h3 : ∀ y, Region.wanted last y = true := fun y => by simp [Region.wanted, hg]
  simp only [Array.getElem?_push_size, h3, if_true]
  exact .inl h
/-- the others are held in S; then the last, as it stands. -/
theorem wp_region_snoc_held {S : World → Prop} {id : Nat} {a : Act} {w : World} (hm : P.follows .mixedOrders = true) (hB : snocB .any head last = true) (hg : last.guard = none)
    (h : wpAnyH P .any head (HeadPost fun a' w' => last.wp P a' w' (Q .normal) Q) S head.size (Array.replicate head.size false) a w.drew) : (Code.region id (head.push last) true).wp P Q a w := by
  refine wp_region_snoc hm hB (wpAny_of_held (S := S) _ _ _ _ ?_)
  exact wpAnyH_post (fun a' w' ht => wpOp_push hg ht) _ _ _ _ h
end
end Go.Proofs.YtgcccihnlecpnaaGreatDoor

namespace Go.Proofs.YtgcccihnlecpnaaGreatDoor
open Go.RowKit

theorem Insert_any (fs : List Fl) (s : Value) (B Bv j : Nat) (nw : Fl) (w : World) (hrow : (s = .slice none 0 0 ∧ fs = []) ∨ (s = .slice (some ⟨B, 0, none⟩) fs.length fs.length ∧ ∃ cur, w.heap[B]? = some (.cells cur 44 (0, 0)) ∧ cur.toList = encFs fs))
    (hone : ∀ u ∈ encFs fs, u.oneCell' = true) (hone2 : ∀ u ∈ nw.enc, u.oneCell' = true) (hj : j ≤ fs.length) (hn : fs.length < 1000000) (hv : ∀ i u, nw.enc[i]? = some u → w.cell? ⟨Bv, i, none⟩ = some u) :
    Calls Tryz.prog 56 #[s, .int .i64 (j : Int), .slice (some ⟨Bv, 0, none⟩) 1 1] w
      fun e w' => ∃ v', e = .returned v' ∧ RowAt (fun k => k = w.heap.size) w' 44 6 v' (fs.length + 1) (encFs (fs.take j ++ nw :: fs.drop j)) ∧ Below w.heap.size w w' := by
  have hsplit : encFs (fs.take j ++ nw :: fs.drop j) = (encFs fs).take (j * 6) ++ nw.enc ++ (encFs fs).drop (j * 6) := by
    rw [encFs_append, encFs_take, encFs_drop, List.append_assoc]; rfl
  rcases hrow with ⟨rfl, rfl⟩ | ⟨rfl, cur, hg, hcur⟩
  · obtain rfl : j = 0 := by simpa using hj
    have h := Insert_nil nw Bv w hv
    rw [hsplit]
    simpa [encFs] using h
  · have hsz : cur.size = fs.length * 6 := by rw [← Array.length_toList, hcur, encFs_length]
    rw [hsplit, ← hcur]
    by_cases he : j = fs.length
    · subst he
      have h := Insert_end B Bv fs.length nw cur w hg hsz hn hv
      have e1 : cur.toList.take (fs.length * 6) = cur.toList := List.take_of_length_le (by simp; omega)
      have e2 : cur.toList.drop (fs.length * 6) = [] := List.drop_of_length_le (by simp; omega)
      rw [e1, e2, List.append_nil]
      exact h
    · obtain ⟨p, hp⟩ : ∃ p, fs.length = j + 1 + p := ⟨fs.length - (j + 1), by omega⟩
      rw [hp]
      exact Insert_mid B Bv j p nw cur w hg (by rw [hsz, hp]) (by rw [hcur]; exact hone) hone2 (by omega) hv

/-- what is there when a field was put between others. -/
theorem set_new_rep {n : Nat} {v x : V} {w w1 w2 w3 w6 : World} {B jn z G : Nat} {name : ByteArray} {es : List El} {fs : List Fl} {l lx fx v' a0 a1 a2 a3 a4 : Value}
    (e2 : RowAt (fun k => z ≤ k ∧ k ≠ B) w1 28 5 l es.length (encEs es)) (e3 : ∀ e ∈ es, Rep (fun k => z ≤ k ∧ k ≠ B) n w1 e.v e.l e.f) (f4 : ∀ e ∈ fs, Rep (fun k => z ≤ k ∧ k ≠ B) n w1 e.v e.l e.f)
    (hrx : Rep (fun k => w2.heap.size ≤ k) (n + 1) w3 x lx fx) (hb16 : Below w1.heap.size w1 w6) (hb36 : Below w3.heap.size w3 w6) (row : RowAt (fun k => k = G) w6 44 6 v' (fs.length + 1) (encFs (fs.take jn ++ ⟨name, x, lx, fx⟩ :: fs.drop jn)))
    (e1 : es.map El.v = v.list) (f1 : fs.map Fl.pair = v.fields) (hj : jn ≤ v.fields.length) (hins : insF name x v.fields = v.fields.take jn ++ (name, x) :: v.fields.drop jn) (zw2 : w1.heap.size < w2.heap.size) (zw3 : w1.heap.size < w3.heap.size) (hG : w3.heap.size ≤ G) (hz1 : w.heap.size + 2 < w1.heap.size) (hzz : w.heap.size + 3 ≤ z := by simp) :
    Rep (fun k => w.heap.size ≤ k) (n + 2) (set5W (w6.setCell ⟨w1.heap.size, 4, none⟩ v') (w.heap.size + 1 + 1) 0 1 2 3 4 a0 a1 a2 a3 a4)
      { kind := 5, num := v.num, text := v.text, list := v.list, fields := insF name x v.fields } l v' := by
  generalize hW : set5W (w6.setCell ⟨w1.heap.size, 4, none⟩ v') (w.heap.size + 1 + 1) 0 1 2 3 4 a0 a1 a2 a3 a4 = W
  have n5 : ∀ b, b ≠ w1.heap.size → b ≠ w.heap.size + 1 + 1 → W.heap[b]? = w6.heap[b]? := fun b h1 h2 => by rw [← hW, set5W_ne _ _ _ _ _ _ _ _ _ _ _ _ h2, heap_setCell_ne _ _ _ h1]
  have old : ∀ b, (z ≤ b ∧ b ≠ B) → b < w1.heap.size → W.heap[b]? = w1.heap[b]? := fun b h1 h2 => by rw [n5 b (by omega) (by omega), hb16.block b h2]
  have hfl : fs.length = v.fields.length := by rw [← f1, List.length_map]
  have hl' : (fs.take jn ++ ⟨name, x, lx, fx⟩ :: fs.drop jn).length = fs.length + 1 := by simp; omega
  refine ⟨⟨es, e1, e2.move fun b h1 h2 => ⟨by omega, old b h1 h2⟩, fun e he => ((e3 e he).move fun b h1 h2 => ⟨by omega, old b h1 h2⟩ : Rep _ n W _ _ _).up⟩, ⟨fs.take jn ++ ⟨name, x, lx, fx⟩ :: fs.drop jn, ?_, ?_, fun u hu => ?_⟩⟩
  · rw [hins, ← f1, List.map_append, List.map_cons, List.map_take, List.map_drop]; rfl
  · rw [hl']
    exact row.move fun b h1 h2 => ⟨by omega, n5 b (by omega) (by omega)⟩
  · rcases List.mem_append.1 hu with hu | hu
    · exact ((f4 u (List.mem_of_mem_take hu)).move fun b h1 h2 => ⟨by omega, old b h1 h2⟩ : Rep _ n W _ _ _).up
    · rcases List.mem_cons.1 hu with rfl | hu
      · refine hrx.move fun b h1 h2 => ⟨by omega, ?_⟩
        rw [n5 b (by omega) (by omega), hb36.block b h2]
      · exact ((f4 u (List.mem_of_mem_drop hu)).move fun b h1 h2 => ⟨by omega, old b h1 h2⟩ : Rep _ n W _ _ _).up
theorem enc_cells {W : World} {b t : Nat} {nm : ByteArray} {x : V} {lx fx : Value} (h : W.heap[b]? = some (.cells #[.string nm, .int .i64 x.kind, .int .i64 x.num, .string x.text, lx, fx] t (0, 0))) : ∀ i u, (Fl.enc ⟨nm, x, lx, fx⟩)[i]? = some u → W.cell? ⟨b, i, none⟩ = some u := by
  intro i u hu
  simp only [World.cell?, h]
  simpa [Fl.enc] using hu
theorem Below.drop_drew {B : Nat} {w W : World} (h : Below B w.drew W) : Below B w W := ⟨h.os, h.tape, h.output, h.size, h.block⟩

attribute [local go_sem ↓] Go.wp_at_zero Go.wp_at_succ
set_option maxRecDepth 100000 in
set_option maxHeartbeats 8000000 in
theorem Set_new (n : Nat) (v x : V) (l f xl xf : Value) (name : ByteArray) (w : World) (hv : Lies n w v l f) (hx : Lies n w x xl xf) (hk : v.kind = 5) (hj : whereI (isName name) v.fields = -1) (hn : v.fields.length < 1000000) :
    Calls Tryz.prog 39 #[.agg #[.int .i64 v.kind, .int .i64 v.num, .string v.text, l, f], .string name, .agg #[.int .i64 x.kind, .int .i64 x.num, .string x.text, xl, xf]] w fun r w' => ∃ l' f', r = .returned (.agg #[.int .i64 v.kind, .int .i64 v.num, .string v.text, l', f']) ∧ GotV (n + 2) w w' { v with fields := insF name x v.fields } l' f' := by
  have hB : ∀ (o1 o2 o3 : Obj), Below w.heap.size w (((w.alloc o1).alloc o2).alloc o3) := fun o1 o2 o3 => (((Below.refl _ _).alloc (Nat.le_refl _) _).alloc (by simp) _).alloc (by simp; omega) _
  have hcall := fun W (hW : Below w.heap.size w W) => twinValue_any n v l f W (hv.below hW)
  have hcallx := fun W (hW : Below w.heap.size w W) => twinValue_any n x xl xf W (hx.below hW)
  have hplace := fun W (hW : Below w.heap.size w W) => place_any n v l f name W (Rep.up (hv.below hW))
  simp only [hk, if_true, hj] at hplace
  obtain ⟨jn, hjn1, hjn2, hjn3⟩ := where_above name x v.fields
  have habove : ∀ W, Below w.heap.size w W → Calls Tryz.prog 57 #[f, .string name] W fun e w' => e = .returned (.int .i64 (jn : Int)) ∧ Below W.heap.size W w' := by
    intro W hW
    obtain ⟨-, ⟨fs0, f1, f2, f3⟩⟩ := Rep.up (hv.below hW)
    rw [← hjn1, ← f1]
    exact above_any n fs0 f name W f2 f3
  obtain ⟨a1, c1, a3, c3, rfl, rfl⟩ := Rep.slices hv
  obtain ⟨a5, c5, a7, c7, rfl, rfl⟩ := Rep.slices hx
  rw [hk] at hcall ⊢
  clear hv hx hj
  go_enter Tryz.func39, Tryz.ntmps39
  go_wp2_with fail
  refine (hcall _ (hB _ _ _)).mono ?_
  rintro e w1 ⟨l', f', rfl, hcp, hb1⟩
  have hrep := hcp.rep
  obtain ⟨al', cl', af', cf', rfl, rfl⟩ := hrep.slices
  obtain ⟨B, hBB, ⟨es, e1, e2, e3⟩, ⟨fs, f1, f2, f3, f4⟩⟩ := hcp
  have hfl : fs.length = v.fields.length := by rw [← f1, List.length_map]
  rw [hfl] at f2
  have hrow : (Value.slice af' v.fields.length cf' = .slice none 0 0 ∧ fs = []) ∨ (Value.slice af' v.fields.length cf' = .slice (some ⟨B, 0, none⟩) fs.length fs.length ∧ ∃ cur, w1.heap[B]? = some (.cells cur 44 (0, 0)) ∧ cur.toList = encFs fs) := by
    by_cases h0 : Value.slice af' v.fields.length cf' = .slice none 0 0
    · left
      refine ⟨h0, ?_⟩
      simp only [Value.slice.injEq] at h0
      exact List.length_eq_zero_iff.1 (by omega)
    · right
      obtain ⟨h1, h2⟩ := f2.full f3 (.inr h0)
      exact ⟨by rw [h1, hfl], h2⟩
  have hone : ∀ u ∈ encFs fs, u.oneCell' = true := encFs_one fun e he => (f4 e he).shape
  have p1 := row_below hb1 heap_alloc3_0
  have r1 := row_below hb1 heap_alloc3_1
  have q1 := row_below hb1 heap_alloc3_2
  obtain ⟨k0, k1, k2, k3, k4, kf⟩ := row5 p1
  have hz1 : w.heap.size + 2 < w1.heap.size := lt_of_heap q1
  have hz2 : w.heap.size < w1.heap.size := lt_of_heap p1
  have hB1 : Below w.heap.size w w1 := (hB _ _ _).trans (hb1.mono (hB _ _ _).size)
  have hB1a : ∀ o, Below w.heap.size w (w1.alloc o) := fun o => hB1.alloc (by omega) _
  have S := (show Hid _ from And.intro hb1 (And.intro e2 (And.intro e3 (And.intro f4 (And.intro hrow (And.intro p1 (And.intro r1 q1)))))))
  clear hrep hb1 e2 e3 f2 f3 f4 hrow p1 r1 q1
  go_wp2_with fail
  refine (hplace _ (hB1a _)).mono ?_
  rintro e w2 ⟨rfl, hb2⟩
  obtain ⟨hb1, e2, e3, f4, hrow, p1, r1, q1⟩ := S.out
  have hl1 : ∀ (o : Obj) (b : Nat), b < w1.heap.size → (w1.alloc o).heap[b]? = w1.heap[b]? := fun o b h => Below.heap_alloc w1 o b h
  have g2 := row_below hb2 (heap_alloc_new w1 _)
  have p2 := row_below hb2 ((hl1 _ _ (lt_of_heap p1)).trans p1)
  have r2 := row_below hb2 ((hl1 _ _ (lt_of_heap r1)).trans r1)
  have q2 := row_below hb2 ((hl1 _ _ (lt_of_heap q1)).trans q1)
  obtain ⟨x0, x1, x2, x3, x4, xfz⟩ := row5 r2
  have hB2 : Below w.heap.size w w2 := (hB1a _).trans (hb2.mono (hB1a _).size)
  have zw2 : w1.heap.size < w2.heap.size := lt_of_heap g2
  have T := (show Hid _ from And.intro hb2 (And.intro g2 (And.intro p2 q2)))
  clear hb1 e2 e3 f4 hrow p1 r1 q1 hb2 g2 r2 q2 p2 k0 k1 k2 k3 k4 kf
  go_wp2_with fail
  refine (hcallx _ hB2).mono ?_
  rintro e w3 ⟨lx, fx, rfl, hcx, hb3⟩
  have hrx := hcx.rep
  obtain ⟨bl, dl, bf, df, rfl, rfl⟩ := hrx.slices
  obtain ⟨hb2, g2, p2, q2⟩ := T.out
  have g3 := row_below hb3 g2
  have p3 := row_below hb3 p2
  have q3 := row_below hb3 q2
  obtain ⟨y0, y1, y2, y3, y4, yfz⟩ := row5 g3
  obtain ⟨s0, s1, s2, s3, s4, sfz⟩ := row5 p3
  have zw3 : w1.heap.size < w3.heap.size := lt_of_heap g3
  have zw4 : w.heap.size < w3.heap.size := lt_of_heap p3
  have hB3 : Below w.heap.size w w3 := hB2.trans (hb3.mono hB2.size)
  have U := (show Hid _ from And.intro hrx (And.intro hb3 (And.intro g3 (And.intro p3 q3))))
  clear hcx hrx hb2 g2 p2 q2 hb3 g3 p3 q3 x0 x1 x2 x3 x4 xfz
  go_wp2_with fail
  generalize hW4 : w3.alloc (.cells #[.string name, .int .i64 x.kind, .int .i64 x.num, .string x.text, .slice bl x.list.length dl, .slice bf x.fields.length df] 44) = W4
  have hb34 : Below w3.heap.size w3 W4 := by rw [← hW4]; exact (Below.refl _ _).alloc (Nat.le_refl _) _
  have hs4 : W4.heap.size = w3.heap.size + 1 := by rw [← hW4]; simp
  have hB4 : Below w.heap.size w W4 := hB3.trans (hb34.mono (by omega))
  have hb14 : Below w1.heap.size w1 W4 := by
    have h2 : Below w1.heap.size w1 w2 := ((Below.refl _ _).alloc (Nat.le_refl _) _).trans (T.out.1.mono (by simp))
    have h3 : Below w1.heap.size w1 w3 := h2.trans (U.out.2.1.mono (by omega))
    exact h3.trans (hb34.mono (by omega))
  have t4 : W4.heap[w3.heap.size]? = some (.cells #[.string name, .int .i64 x.kind, .int .i64 x.num, .string x.text, .slice bl x.list.length dl, .slice bf x.fields.length df] 44) := by rw [← hW4]; exact heap_alloc_new w3 _
  have g4 := row_below hb34 U.out.2.2.1
  have p4 := row_below hb34 U.out.2.2.2.1
  have q4 := row_below hb34 U.out.2.2.2.2
  obtain ⟨y0', y1', y2', y3', y4', yfz'⟩ := row5 g4
  obtain ⟨s0', s1', s2', s3', s4', sfz'⟩ := row5 p4
  obtain ⟨t0', t1', t2', t3', t4', t5', tfz'⟩ := row6 t4
  have hIns : ∀ W Bv, Below W4.heap.size W4 W → (∀ i u, (Fl.enc ⟨name, x, .slice bl x.list.length dl, .slice bf x.fields.length df⟩)[i]? = some u → W.cell? ⟨Bv, i, none⟩ = some u) → Calls Tryz.prog 56 #[.slice af' v.fields.length cf', .int .i64 (jn : Int), .slice (some ⟨Bv, 0, none⟩) 1 1] W
      fun e w' => ∃ v', e = .returned v' ∧ RowAt (fun k => k = W.heap.size) w' 44 6 v' (fs.length + 1) (encFs (fs.take jn ++ ⟨name, x, .slice bl x.list.length dl, .slice bf x.fields.length df⟩ :: fs.drop jn)) ∧ Below W.heap.size W w' := by
    intro W Bv hW hcells
    refine Insert_any fs _ B Bv jn _ W ?_ hone ?_ (by omega) (by omega) hcells
    · rcases S.out.2.2.2.2.1 with h | ⟨h1, cur, h2, h3⟩
      · exact .inl h
      · exact .inr ⟨h1, cur, row_below hW (row_below hb14 h2), h3⟩
    · intro u hu
      simp only [Fl.enc, List.mem_cons, List.not_mem_nil, or_false] at hu
      rcases hu with rfl | rfl | rfl | rfl | rfl | rfl <;> rfl
  clear y0 y1 y2 y3 y4 yfz s0 s1 s2 s3 s4 sfz hone
  have V4 := (show Hid _ from And.intro hb34 (And.intro hb14 (And.intro g4 (And.intro q4 t4))))
  have HW := (show Hid _ from hW4)
  have HH := (show Hid _ from And.intro hBB (And.intro e1 (And.intro f1 (And.intro hfl (And.intro hjn2 (And.intro hjn3 (And.intro hz1 (And.intro zw2 (And.intro zw3 hs4)))))))))
  clear g4 p4 q4 t4 hb34 hb14 hW4 hcall hcallx hplace hjn1 hjn2 hjn3 hk hn hBB e1 f1 hfl hz1 hz2 hB hB1 hB1a hB2 hB3 hl1 zw2 zw3 zw4 hs4 y0' y1' y2' y3' yfz' s0' s1' s2' s3' sfz' tfz'
  have z41 : w1.heap.size < W4.heap.size := by have := HH.out.2.2.2.2.2.2.2.2; omega
  have z42 : w.heap.size < W4.heap.size := by have := HH.out.2.2.2.2.2.2; have := hB4.size; omega
  have z43 : w3.heap.size < W4.heap.size := by have := HH.out.2.2.2.2.2.2.2.2; omega
  have Y4 := fun w' (h : Below W4.heap.size W4 w') => (h.cell (lt_of_cell y4')).trans y4'
  have S4 := fun w' (h : Below W4.heap.size W4 w') => (h.cell (lt_of_cell s4')).trans s4'
  have T0 := fun w' (h : Below W4.heap.size W4 w') => (h.cell (lt_of_cell t0')).trans t0'
  have T1 := fun w' (h : Below W4.heap.size W4 w') => (h.cell (lt_of_cell t1')).trans t1'
  have T2 := fun w' (h : Below W4.heap.size W4 w') => (h.cell (lt_of_cell t2')).trans t2'
  have T3 := fun w' (h : Below W4.heap.size W4 w') => (h.cell (lt_of_cell t3')).trans t3'
  have T4 := fun w' (h : Below W4.heap.size W4 w') => (h.cell (lt_of_cell t4')).trans t4'
  have T5 := fun w' (h : Below W4.heap.size W4 w') => (h.cell (lt_of_cell t5')).trans t5'
  clear y4' s4' t0' t1' t2' t3' t4' t5'
  have h0 : (fun w' => Below W4.heap.size W4 w') W4.drew := (Below.refl _ _).drew
  refine wp_region_snoc_held (S := fun w' => Below W4.heap.size W4 w') (head := #[_, _, _, _, _, _, _, _, _, _]) (last := ⟨_, _, _, _, _, _⟩) mixed (by kernel_rfl) rfl ?_
  refine wpAnyH_take (i := 0) (oi := ⟨_, _, _, _, _, _⟩) (v := ?v0) rfl (by kernel_rfl) (by kernel_rfl) (by kernel_rfl) (fun _ _ _ h => h) (Or.inl ⟨by rfl, ?hy0⟩) h0 ?rest0
  case hy0 => (intro w hSw; (try dsimp only at hSw); go_simp; try with_reducible rfl)
  simp only [Act.put, List.setIfInBounds_toArray, List.set_cons_zero, List.set_cons_succ]
  refine wpAnyH_take (i := 1) (oi := ⟨_, _, _, _, _, _⟩) (v := ?v1) rfl (by kernel_rfl) (by kernel_rfl) (by kernel_rfl) (fun _ _ _ h => h) (Or.inl ⟨by rfl, ?hy1⟩) h0 ?rest1
  case hy1 => (intro w hSw; (try dsimp only at hSw); go_simp; try with_reducible rfl)
  simp only [Act.put, List.setIfInBounds_toArray, List.set_cons_zero, List.set_cons_succ]
  refine wpAnyH_take (i := 2) (oi := ⟨_, _, _, _, _, _⟩) (v := ?v2) rfl (by kernel_rfl) (by kernel_rfl) (by kernel_rfl) (fun _ _ _ h => h) (Or.inl ⟨by rfl, ?hy2⟩) h0 ?rest2
  case hy2 => (intro w hSw; (try dsimp only at hSw); go_simp; try with_reducible rfl)
  simp only [Act.put, List.setIfInBounds_toArray, List.set_cons_zero, List.set_cons_succ]
  refine wpAnyH_take (i := 3) (oi := ⟨_, _, _, _, _, _⟩) (v := ?v3) rfl (by kernel_rfl) (by kernel_rfl) (by kernel_rfl) (fun _ _ _ h => h) (Or.inl ⟨by rfl, ?hy3⟩) h0 ?rest3
  case hy3 => (intro w hSw; (try dsimp only at hSw); go_simp; try with_reducible rfl)
  simp only [Act.put, List.setIfInBounds_toArray, List.set_cons_zero, List.set_cons_succ]
  refine wpAnyH_take (i := 4) (oi := ⟨_, _, _, _, _, _⟩) (v := ?v4) rfl (by kernel_rfl) (by kernel_rfl) (by kernel_rfl) (fun _ _ _ h => h) (Or.inl ⟨by rfl, ?hy4⟩) h0 ?rest4
  case hy4 => (intro w hSw; (try dsimp only at hSw); go_simp; try with_reducible rfl)
  simp only [Act.put, List.setIfInBounds_toArray, List.set_cons_zero, List.set_cons_succ]
  refine wpAnyH_take (i := 6) (oi := ⟨_, _, _, _, _, _⟩) (v := ?v6) rfl (by kernel_rfl) (by kernel_rfl) (by kernel_rfl) (fun _ _ _ h => h) (Or.inl ⟨by rfl, ?hy6⟩) h0 ?rest6
  case hy6 => (intro w hSw; (try dsimp only at hSw); go_simp; try with_reducible rfl)
  simp only [Act.put, List.setIfInBounds_toArray, List.set_cons_zero, List.set_cons_succ]
  refine wpAnyH_ready (rs := [5, 7]) (by kernel_rfl) (by simp) ?_
  refine AllReadyH.cons (o := ⟨_, _, _, _, _, _⟩) rfl (fun K hK => ?_) (AllReadyH.cons (o := ⟨_, _, _, _, _, _⟩) rfl (fun K hK => ?_) AllReadyH.nil)
  · go_simp
    refine (habove _ hB4.drew).mono ?_
    rintro e w5 ⟨rfl, hb5⟩
    have h5 : Below W4.heap.size W4 w5 := below_of_drew hb5
    refine hK.out _ _ h5 (fun hHeld => ?_)
    clear hK K hHeld hb5
    try simp only [Act.put, List.setIfInBounds_toArray, List.set_cons_zero, List.set_cons_succ]
    refine wpAnyH_ready (rs := [7]) (by kernel_rfl) (by simp) ?_
    refine AllReadyH.cons (o := ⟨_, _, _, _, _, _⟩) rfl (fun K hK => ?_) AllReadyH.nil
    go_simp
    have h6 : ∀ o, Below W4.heap.size W4 (w5.alloc o) := fun o => h5.alloc h5.size o
    refine hK.out _ _ (h6 _) (fun hHeld => ?_)
    clear hK K hHeld
    try simp only [Act.put, List.setIfInBounds_toArray, List.set_cons_zero, List.set_cons_succ]
    refine wpAnyH_ready (rs := [8]) (by kernel_rfl) (by simp) ?_
    refine AllReadyH.cons (o := ⟨_, _, _, _, _, _⟩) rfl (fun K hK => ?_) AllReadyH.nil
    go_simp
    refine (hIns _ _ (h6 _) (enc_cells (heap_alloc_new w5 _))).mono ?_
    rintro e w6 ⟨v', rfl, hr6, hb6⟩
    obtain ⟨av, cv, rfl⟩ := hr6.slice
    have h7 : Below W4.heap.size W4 w6 := (h6 _).trans (hb6.mono (h6 _).size)
    refine hK.out _ _ h7 (fun hHeld => ?_)
    clear hK K hHeld
    try simp only [Act.put, List.setIfInBounds_toArray, List.set_cons_zero, List.set_cons_succ]
    refine wpAnyH_ready (rs := [9]) (by kernel_rfl) (by simp) ?_
    refine AllReadyH.cons (o := ⟨_, _, _, _, _, _⟩) rfl (fun K hK => ?_) AllReadyH.nil
    go_simp
    refine hK.out _ _ h7 (fun hHeld => ?_)
    clear hK K hHeld
    try simp only [Act.put, List.setIfInBounds_toArray, List.set_cons_zero, List.set_cons_succ]
    refine wpAnyH_done (by kernel_rfl) ?_ _
    have g6 := row_below h7 V4.out.2.2.1
    obtain ⟨g60, g61, g62, g63, g64, g6f⟩ := row5 g6
    have q6 := row_below h7 V4.out.2.2.2.1
    obtain ⟨o0, o1, o2, o3, o4, ofz⟩ := row5 (B := w.heap.size + 1 + 1) q6
    have zz7 : w1.heap.size < w6.heap.size := lt_of_heap g6
    have zz8 : w.heap.size + 1 + 1 < w1.heap.size := HH.out.2.2.2.2.2.2.1
    have Y := (show Hid (∃ G, w3.heap.size ≤ G ∧ RowAt (fun k => k = G) w6 44 6 (.slice av (fs.length + 1) cv) (fs.length + 1) (encFs (fs.take jn ++ ⟨name, x, .slice bl x.list.length dl, .slice bf x.fields.length df⟩ :: fs.drop jn)) ∧ Below W4.heap.size W4 w6) from ⟨_, by rw [World.size_alloc]; have := h5.size; have := HH.out.2.2.2.2.2.2.2.2.2; omega, hr6, h7⟩)
    clear hr6 hb6 g6 q6 h5 h6 h7
    show Oper.wp _ _ _ _ _ _
    go_simp
    go_wp2
    refine bodyPost_ret (v := .agg #[.int .i64 5, .int .i64 v.num, .string v.text, .slice al' v.list.length cl', .slice av (fs.length + 1) cv]) (by simp [results, Tryz.results39, go_sem, o0, o1, o2, o3, o4]) rfl ⟨_, _, rfl, ?_, ?_⟩
    · obtain ⟨G, hG, hr, hb46⟩ := Y.out
      have hb16 : Below w1.heap.size w1 w6 := V4.out.2.1.trans (hb46.mono V4.out.2.1.size)
      have hb36 : Below w3.heap.size w3 w6 := V4.out.1.trans (hb46.mono V4.out.1.size)
      obtain ⟨hBB, e1, f1, hfl, hjn2, hjn3, hz1, zw2, zw3, hs4⟩ := HH.out
      exact set_new_rep S.out.2.1 S.out.2.2.1 S.out.2.2.2.1 U.out.1 hb16 hb36 hr e1 f1 hjn2 hjn3 zw2 zw3 hG hz1
    · obtain ⟨hBB, e1, f1, hfl, hjn2, hjn3, hz1, zw2, zw3, hs4⟩ := HH.out
      have hB6 := hB4.trans (Y.out.choose_spec.2.2.mono hB4.size)
      exact set5W_below (hB6.setCell (by simp; omega) _) (by omega) _ _ _ _ _ _ _ _ _ _
  · go_simp
    have h5 : ∀ o, Below W4.heap.size W4 (W4.drew.alloc o) := fun o => h0.alloc h0.size o
    refine hK.out _ _ (h5 _) (fun hHeld => ?_)
    clear hK K hHeld
    try simp only [Act.put, List.setIfInBounds_toArray, List.set_cons_zero, List.set_cons_succ]
    refine wpAnyH_ready (rs := [5]) (by kernel_rfl) (by simp) ?_
    refine AllReadyH.cons (o := ⟨_, _, _, _, _, _⟩) rfl (fun K hK => ?_) AllReadyH.nil
    go_simp
    refine (habove _ (hB4.trans ((h5 _).mono hB4.size))).mono ?_
    rintro e w5 ⟨rfl, hb5⟩
    have h6 : Below W4.heap.size W4 w5 := (h5 _).trans (hb5.mono (h5 _).size)
    have u5 := row_below hb5 (heap_alloc_new W4.drew _)
    refine hK.out _ _ h6 (fun hHeld => ?_)
    clear hK K hHeld hb5
    try simp only [Act.put, List.setIfInBounds_toArray, List.set_cons_zero, List.set_cons_succ]
    refine wpAnyH_ready (rs := [8]) (by kernel_rfl) (by simp) ?_
    refine AllReadyH.cons (o := ⟨_, _, _, _, _, _⟩) rfl (fun K hK => ?_) AllReadyH.nil
    go_simp
    refine (hIns _ _ h6 (enc_cells u5)).mono ?_
    rintro e w6 ⟨v', rfl, hr6, hb6⟩
    obtain ⟨av, cv, rfl⟩ := hr6.slice
    have h7 : Below W4.heap.size W4 w6 := h6.trans (hb6.mono h6.size)
    refine hK.out _ _ h7 (fun hHeld => ?_)
    clear hK K hHeld
    try simp only [Act.put, List.setIfInBounds_toArray, List.set_cons_zero, List.set_cons_succ]
    refine wpAnyH_ready (rs := [9]) (by kernel_rfl) (by simp) ?_
    refine AllReadyH.cons (o := ⟨_, _, _, _, _, _⟩) rfl (fun K hK => ?_) AllReadyH.nil
    go_simp
    refine hK.out _ _ h7 (fun hHeld => ?_)
    clear hK K hHeld
    try simp only [Act.put, List.setIfInBounds_toArray, List.set_cons_zero, List.set_cons_succ]
    refine wpAnyH_done (by kernel_rfl) ?_ _
    have g6 := row_below h7 V4.out.2.2.1
    obtain ⟨g60, g61, g62, g63, g64, g6f⟩ := row5 g6
    have q6 := row_below h7 V4.out.2.2.2.1
    obtain ⟨o0, o1, o2, o3, o4, ofz⟩ := row5 (B := w.heap.size + 1 + 1) q6
    have zz7 : w1.heap.size < w6.heap.size := lt_of_heap g6
    have zz8 : w.heap.size + 1 + 1 < w1.heap.size := HH.out.2.2.2.2.2.2.1
    have Y := (show Hid (∃ G, w3.heap.size ≤ G ∧ RowAt (fun k => k = G) w6 44 6 (.slice av (fs.length + 1) cv) (fs.length + 1) (encFs (fs.take jn ++ ⟨name, x, .slice bl x.list.length dl, .slice bf x.fields.length df⟩ :: fs.drop jn)) ∧ Below W4.heap.size W4 w6) from ⟨_, by have := h6.size; have := HH.out.2.2.2.2.2.2.2.2.2; omega, hr6, h7⟩)
    clear hr6 hb6 g6 q6 h5 h6 h7
    show Oper.wp _ _ _ _ _ _
    go_simp
    go_wp2
    refine bodyPost_ret (v := .agg #[.int .i64 5, .int .i64 v.num, .string v.text, .slice al' v.list.length cl', .slice av (fs.length + 1) cv]) (by simp [results, Tryz.results39, go_sem, o0, o1, o2, o3, o4]) rfl ⟨_, _, rfl, ?_, ?_⟩
    · obtain ⟨G, hG, hr, hb46⟩ := Y.out
      have hb16 : Below w1.heap.size w1 w6 := V4.out.2.1.trans (hb46.mono V4.out.2.1.size)
      have hb36 : Below w3.heap.size w3 w6 := V4.out.1.trans (hb46.mono V4.out.1.size)
      obtain ⟨hBB, e1, f1, hfl, hjn2, hjn3, hz1, zw2, zw3, hs4⟩ := HH.out
      exact set_new_rep S.out.2.1 S.out.2.2.1 S.out.2.2.2.1 U.out.1 hb16 hb36 hr e1 f1 hjn2 hjn3 zw2 zw3 hG hz1
    · obtain ⟨hBB, e1, f1, hfl, hjn2, hjn3, hz1, zw2, zw3, hs4⟩ := HH.out
      have hB6 := hB4.trans (Y.out.choose_spec.2.2.mono hB4.size)
      exact set5W_below (hB6.setCell (by simp; omega) _) (by omega) _ _ _ _ _ _ _ _ _ _
end Go.Proofs.YtgcccihnlecpnaaGreatDoor
