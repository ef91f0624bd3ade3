/-
  package value's Size by its contract. Condition: it is at most a million millions.
-/
import Derived.Test.YtheijncppmndoaaDoorVCmp3
import Derived.Deep.RegionWith
import Derived.Deep.DrawnRows
namespace Go.Proofs.YtheijncppmndoaaDoor
open Go.RowKit
attribute [local go_sem ↓] Go.wp_at_zero Go.wp_at_succ

def sumL : List Int → Int
  | [] => 0
  | x :: xs => x + sumL xs
/-- how great a value is, so deep. -/
def sizeV : Nat → V → Int
  | 0, _ => 1
  | n + 1, v => 1 + (if v.kind = 3 then (v.text.size : Int) else if v.kind = 4 then sumL (v.list.map (sizeV n)) else if v.kind = 5 then sumL (v.fields.map fun p => (p.1.size : Int) + sizeV n p.2) else 0)
theorem sumL_nonneg : ∀ (l : List Int), (∀ x ∈ l, 0 ≤ x) → 0 ≤ sumL l
  | [], _ => Int.le_refl _
  | x :: xs, h => by
    have := sumL_nonneg xs fun y hy => h y (by simp [hy])
    have := h x (by simp)
    simp only [sumL]; omega
theorem sizeV_pos : ∀ (n : Nat) (v : V), 1 ≤ sizeV n v
  | 0, _ => by simp [sizeV]
  | n + 1, v => by
    simp only [sizeV]
    split
    · omega
    · split
      · have := sumL_nonneg (v.list.map (sizeV n)) (fun x hx => by obtain ⟨y, _, rfl⟩ := List.mem_map.1 hx; have := sizeV_pos n y; omega)
        omega
      · split
        · have := sumL_nonneg (v.fields.map fun p => (p.1.size : Int) + sizeV n p.2) (fun x hx => by obtain ⟨y, _, rfl⟩ := List.mem_map.1 hx; have := sizeV_pos n y.2; omega)
          omega
        · omega
theorem sumL_append : ∀ (a b : List Int), sumL (a ++ b) = sumL a + sumL b
  | [], b => by simp [sumL]
  | x :: a, b => by simp only [List.cons_append, sumL, sumL_append a b]; omega
theorem sumL_part {α : Type} (g : α → Int) (xs : List α) (k : Nat) (x : α) (hx : xs[k]? = some x) (h : ∀ y ∈ xs, 0 ≤ g y) : 0 ≤ sumL ((xs.take k).map g) ∧ 0 ≤ g x ∧ sumL ((xs.take k).map g) + g x ≤ sumL (xs.map g) ∧ sumL ((xs.take (k + 1)).map g) = sumL ((xs.take k).map g) + g x := by
  have hk := (List.getElem?_eq_some_iff.1 hx).1
  have e : (xs.take (k + 1)).map g = (xs.take k).map g ++ [g x] := by rw [List.take_add_one, hx]; simp
  have e2 : xs.map g = (xs.take (k + 1)).map g ++ (xs.drop (k + 1)).map g := by rw [← List.map_append, List.take_append_drop]
  have n1 := sumL_nonneg ((xs.take k).map g) (fun y hy => by obtain ⟨z, hz, rfl⟩ := List.mem_map.1 hy; exact h z (List.mem_of_mem_take hz))
  have n2 := sumL_nonneg ((xs.drop (k + 1)).map g) (fun y hy => by obtain ⟨z, hz, rfl⟩ := List.mem_map.1 hy; exact h z (List.mem_of_mem_drop hz))
  refine ⟨n1, h x (List.mem_of_getElem? hx), ?_, ?_⟩
  · rw [e2, e, sumL_append, sumL_append]; simp only [sumL]; omega
  · rw [e, sumL_append]; simp only [sumL]; omega

set_option maxHeartbeats 2000000 in
theorem Size_step (n : Nat) (v : V) (l f : Value) (w : World) (xs : List El) (fs : List Fl) (ea : xs.map El.v = v.list) (ef : fs.map Fl.pair = v.fields)
    (hxs : RowAt (fun _ => True) w 28 5 l xs.length (encEs xs)) (hfs : RowAt (fun _ => True) w 35 6 f fs.length (encFs fs)) (lx : ∀ e ∈ xs, Lies n w e.v e.l e.f) (lf : ∀ e ∈ fs, Lies n w e.v e.l e.f)
    (hg : v.kind = 4 → ∀ x ∈ xs, ∀ W, Below w.heap.size w W → Calls Tryd.prog 15 #[.agg #[.int .i64 x.v.kind, .int .i64 x.v.num, .string x.v.text, x.l, x.f]] W fun e w' => e = .returned (.int .i64 (sizeV n x.v)) ∧ Below W.heap.size W w')
    (hf : v.kind = 5 → ∀ x ∈ fs, ∀ W, Below w.heap.size w W → Calls Tryd.prog 15 #[.agg #[.int .i64 x.v.kind, .int .i64 x.v.num, .string x.v.text, x.l, x.f]] W fun e w' => e = .returned (.int .i64 (sizeV n x.v)) ∧ Below W.heap.size W w') (hlim : sizeV (n + 1) v ≤ 1000000000000) :
    Calls Tryd.prog 15 #[.agg #[.int .i64 v.kind, .int .i64 v.num, .string v.text, l, f]] w fun e w' => e = .returned (.int .i64 (sizeV (n + 1) v)) ∧ Below w.heap.size w w' := by
  have hB : ∀ (o1 : Obj), Below w.heap.size w (w.alloc o1) := fun o1 => (Below.refl _ _).alloc (Nat.le_refl _) _
  obtain ⟨a1, c1, rfl⟩ := hxs.slice
  obtain ⟨a3, c3, rfl⟩ := hfs.slice
  have nx := hxs.2.1
  have nf := hfs.2.1
  simp only [sizeV] at hlim ⊢
  by_cases h3 : v.kind = 3
  · rw [if_pos h3] at hlim ⊢
    rw [h3]
    clear hg hf lx lf hxs hfs h3
    go_enter Tryd.func15, Tryd.ntmps15
    go_wp2
    go_ret
    exact ⟨rfl, hB _⟩
  rw [if_neg h3] at hlim ⊢
  by_cases h4 : v.kind = 4
  · rw [if_pos h4] at hlim ⊢
    replace hg := hg h4
    rw [h4]
    rw [← ea, List.map_map] at hlim ⊢
    clear hf lf hfs ef ea h4 h3
    go_enter Tryd.func15, Tryd.ntmps15
    go_wp2
    go_loopg [3, 5, 22] xs.length (fun gg m _ i wr => ∃ k : Nat, k ≤ xs.length ∧ xs.length - k ≤ gg ∧ i = .int .i64 k ∧ m = .int .i64 (1 + sumL ((xs.take k).map (sizeV n ∘ El.v))) ∧ Aside (Below w.heap.size w wr))
    case atStart => exact ⟨0, Nat.zero_le _, by omega, rfl, rfl, hB _⟩
    case round =>
      obtain ⟨k, hk, hgg, rfl, rfl, BW⟩ := hrel
      by_cases hlt : k < xs.length
      · obtain ⟨b, c', e1, hbl, _, hc1, hc2, _⟩ := hxs.cells (by omega)
        simp only [Value.slice.injEq, true_and] at e1
        obtain ⟨rfl, rfl⟩ := e1
        obtain ⟨⟨xv, xl, xf⟩, hx⟩ : ∃ x, xs[k]? = some x := ⟨_, List.getElem?_eq_getElem hlt⟩
        have hm : ∀ b, True → b < w.heap.size → True ∧ wr.heap[b]? = w.heap[b]? := fun b _ h => ⟨trivial, BW.out.block b h⟩
        obtain ⟨a0, a1, a2, a3, a4⟩ := (hxs.move hm).el hx
        have hlx : Lies n wr xv xl xf := (lx _ (List.mem_of_getElem? hx)).below BW.out
        obtain ⟨p1, p2, p3, p4⟩ := sumL_part (sizeV n ∘ El.v) xs k _ hx (fun y _ => by have := sizeV_pos n y.v; simp only [Function.comp]; omega)
        simp only [Function.comp_apply] at p2 p3 p4
        simp only at a0 a1 a2 a3 a4
        obtain ⟨al, cl, af, cf, rfl, rfl⟩ := hlx.slices
        have hcall := fun W (hW : Below wr.heap.size wr W) => hg _ (List.mem_of_getElem? hx) W (BW.out.trans (hW.mono BW.out.size))
        simp only at hcall
        have zk : (k : Int) < (xs.length : Int) := by omega
        have HP := (show Aside _ from p4)
        have q1 : sumL ((xs.take k).map (sizeV n ∘ El.v)) ≤ 1000000000000 := by omega
        have q2 : sizeV n xv ≤ 1000000000000 := by omega
        clear hx hm hlx lx hg hxs p3 p4 hlim
        generalize sumL ((xs.take k).map (sizeV n ∘ El.v)) = ms at *
        generalize sizeV n xv = dx at *
        go_wp2_with fail
        refine (hcall _ ((Below.refl _ _).alloc (Nat.le_refl _) _)).mono ?_
        rintro e w' ⟨rfl, hb'⟩
        go_wp2
        go_roundg (xs.length - (k + 1))
        case measure => omega
        case rel =>
          refine ⟨k + 1, by omega, by omega, by go_num, ?_, BW.out.trans ((((Below.refl _ _).alloc (Nat.le_refl _) _).trans (hb'.mono (by simp))).mono BW.out.size)⟩
          rw [HP.out, Int.add_assoc]
      · have hz : ¬ (k : Int) < (xs.length : Int) := by omega
        have hk' : k = xs.length := by omega
        subst hk'
        rw [List.take_length]
        clear hg lx hxs
        go_wp2
        go_ret
        exact ⟨rfl, BW.out⟩
  · rw [if_neg h4] at hlim ⊢
    by_cases h5 : v.kind = 5
    · rw [if_pos h5] at hlim ⊢
      replace hf := hf h5
      rw [h5]
      rw [← ef, List.map_map, show ((fun p : ByteArray × V => (p.1.size : Int) + sizeV n p.2) ∘ Fl.pair) = (fun e : Fl => (e.name.size : Int) + sizeV n e.v) from rfl] at hlim ⊢
      clear hg lx hxs ef ea h4 h5 h3
      go_enter Tryd.func15, Tryd.ntmps15
      go_wp2
      go_loopg [3, 7, 36] fs.length (fun gg m _ i wr => ∃ k : Nat, k ≤ fs.length ∧ fs.length - k ≤ gg ∧ i = .int .i64 k ∧ m = .int .i64 (1 + sumL ((fs.take k).map (fun e : Fl => (e.name.size : Int) + sizeV n e.v))) ∧ Aside (Below w.heap.size w wr))
      case atStart => exact ⟨0, Nat.zero_le _, by omega, rfl, rfl, hB _⟩
      case round =>
        obtain ⟨k, hk, hgg, rfl, rfl, BW⟩ := hrel
        by_cases hlt : k < fs.length
        · obtain ⟨b, c', e1, hbl, _, hc1, hc2, _⟩ := hfs.cells (by omega)
          simp only [Value.slice.injEq, true_and] at e1
          obtain ⟨rfl, rfl⟩ := e1
          obtain ⟨⟨xn, xv, xl, xf⟩, hx⟩ : ∃ x, fs[k]? = some x := ⟨_, List.getElem?_eq_getElem hlt⟩
          have hm : ∀ b, True → b < w.heap.size → True ∧ wr.heap[b]? = w.heap[b]? := fun b _ h => ⟨trivial, BW.out.block b h⟩
          obtain ⟨a0, a1, a2, a3, a4, a5⟩ := (hfs.move hm).fl hx
          have hlx : Lies n wr xv xl xf := (lf _ (List.mem_of_getElem? hx)).below BW.out
          obtain ⟨p1, p2, p3, p4⟩ := sumL_part (fun e : Fl => (e.name.size : Int) + sizeV n e.v) fs k _ hx (fun y _ => by have := sizeV_pos n y.v; show 0 ≤ (y.name.size : Int) + sizeV n y.v; omega)
          simp only at p2 p3 p4
          have p5 := sizeV_pos n xv
          simp only at a0 a1 a2 a3 a4 a5
          obtain ⟨al, cl, af, cf, rfl, rfl⟩ := hlx.slices
          have hcall := fun W (hW : Below wr.heap.size wr W) => hf _ (List.mem_of_getElem? hx) W (BW.out.trans (hW.mono BW.out.size))
          simp only at hcall
          have zk : (k : Int) < (fs.length : Int) := by omega
          have HP := (show Aside _ from p4)
          have q1 : sumL ((fs.take k).map (fun e : Fl => (e.name.size : Int) + sizeV n e.v)) ≤ 1000000000000 := by omega
          have q2 : sizeV n xv ≤ 1000000000000 := by omega
          have q3 : (xn.size : Int) ≤ 1000000000000 := by omega
          obtain ⟨ns, hns⟩ : ∃ ns : Int, (xn.size : Int) = ns := ⟨_, rfl⟩
          rw [hns] at q3 HP
          have q4 : 0 ≤ ns := by omega
          have hw1 : IntKind.i64.wrap (ns + sizeV n xv) = ns + sizeV n xv := by rw [IntKind.wrap_i64]; omega
          have hw2 : IntKind.i64.wrap (1 + sumL ((fs.take k).map (fun e : Fl => (e.name.size : Int) + sizeV n e.v)) + (ns + sizeV n xv)) = 1 + sumL ((fs.take k).map (fun e : Fl => (e.name.size : Int) + sizeV n e.v)) + (ns + sizeV n xv) := by rw [IntKind.wrap_i64]; omega
          have hBa : ∀ o, Below wr.heap.size wr (wr.alloc o).drew := fun o => ((Below.refl _ _).alloc (Nat.le_refl _) _).drew
          clear hx hm hlx lf hf hfs p2 p3 p4 hlim
          generalize sumL ((fs.take k).map (fun e : Fl => (e.name.size : Int) + sizeV n e.v)) = ms at *
          generalize sizeV n xv = dx at *
          go_wp2_with fail
          go_region_with (go_at_call 15; refine (hcall _ (hBa _)).mono ?_; rintro e w' ⟨rfl, hb'⟩; have k0 := hb'.cell (p := ⟨wr.heap.size, 0, none⟩) (by simp); simp at k0; have hBw := (hBa _).trans (hb'.mono (hBa _).size); clear hb')
          all_goals
            go_wp2
            go_roundg (fs.length - (k + 1))
            case measure => omega
            case rel =>
              refine ⟨k + 1, by omega, by omega, by go_num, ?_, BW.out.trans (hBw.mono BW.out.size)⟩
              rw [HP.out]
              first
                | rfl
                | (congr 1; omega)
        · have hz : ¬ (k : Int) < (fs.length : Int) := by omega
          have hk' : k = fs.length := by omega
          subst hk'
          rw [List.take_length]
          clear hf lf hfs
          go_wp2
          go_ret
          exact ⟨rfl, BW.out⟩
    · rw [if_neg h5] at hlim ⊢
      have e3 : (v.kind == 3) = false := by simpa using h3
      have e4 : (v.kind == 4) = false := by simpa using h4
      have e5 : (v.kind == 5) = false := by simpa using h5
      clear hg hf lx lf hxs hfs
      go_enter Tryd.func15, Tryd.ntmps15
      go_wp2
      go_ret
      exact ⟨rfl, hB _⟩

theorem sumL_mem : ∀ (l : List Int), (∀ x ∈ l, 0 ≤ x) → ∀ x ∈ l, x ≤ sumL l
  | [], _, _, hx => by cases hx
  | y :: l, h, x, hx => by
    have n1 := sumL_nonneg l fun z hz => h z (by simp [hz])
    have n2 := h y (by simp)
    simp only [sumL]
    rcases List.mem_cons.1 hx with rfl | hx
    · omega
    · have := sumL_mem l (fun z hz => h z (by simp [hz])) x hx
      omega
theorem sizeV_list {n : Nat} {v : V} (h : v.kind = 4) {x : V} (hx : x ∈ v.list) : sizeV n x ≤ sizeV (n + 1) v := by
  simp only [sizeV, h]
  rw [if_neg (by decide), if_pos trivial]
  have := sumL_mem (v.list.map (sizeV n)) (fun y hy => by obtain ⟨z, _, rfl⟩ := List.mem_map.1 hy; have := sizeV_pos n z; omega) (sizeV n x) (List.mem_map.2 ⟨x, hx, rfl⟩)
  omega
theorem sizeV_field {n : Nat} {v : V} (h : v.kind = 5) {p : ByteArray × V} (hp : p ∈ v.fields) : sizeV n p.2 ≤ sizeV (n + 1) v := by
  simp only [sizeV, h]
  rw [if_neg (by decide), if_neg (by decide), if_pos trivial]
  have := sumL_mem (v.fields.map fun p => (p.1.size : Int) + sizeV n p.2) (fun y hy => by obtain ⟨z, _, rfl⟩ := List.mem_map.1 hy; have := sizeV_pos n z.2; omega) ((p.1.size : Int) + sizeV n p.2) (List.mem_map.2 ⟨p, hp, rfl⟩)
  omega

theorem Size_any : ∀ (n : Nat) (v : V) (l f : Value) (w : World), Lies n w v l f → sizeV (n + 1) v ≤ 1000000000000 →
    Calls Tryd.prog 15 #[.agg #[.int .i64 v.kind, .int .i64 v.num, .string v.text, l, f]] w fun e w' => e = .returned (.int .i64 (sizeV (n + 1) v)) ∧ Below w.heap.size w w'
  | 0, v, l, f, w, ⟨h1, h2, h3, h4⟩, hl => by
    subst h3 h4
    exact Size_step 0 v _ _ w [] [] h1.symm h2.symm RowAt.nil RowAt.nil (fun e he => (by cases he)) (fun e he => (by cases he)) (fun _ x hx => (by cases hx)) (fun _ x hx => (by cases hx)) hl
  | n + 1, v, l, f, w, ⟨⟨xs, e1, e2, e3⟩, ⟨fs, f1, f2, f3⟩⟩, hl =>
    Size_step (n + 1) v l f w xs fs e1 f1 e2 f2 (fun e he => Rep.up (e3 e he)) (fun e he => Rep.up (f3 e he))
      (fun hk x hx W hW => Size_any n x.v x.l x.f W (Lies.below hW (e3 x hx)) (Int.le_trans (sizeV_list hk (by rw [← e1]; exact List.mem_map.2 ⟨x, hx, rfl⟩)) hl))
      (fun hk x hx W hW => Size_any n x.v x.l x.f W (Lies.below hW (f3 x hx)) (Int.le_trans (sizeV_field hk (p := x.pair) (by rw [← f1]; exact List.mem_map.2 ⟨x, hx, rfl⟩)) hl)) hl
end Go.Proofs.YtheijncppmndoaaDoor
