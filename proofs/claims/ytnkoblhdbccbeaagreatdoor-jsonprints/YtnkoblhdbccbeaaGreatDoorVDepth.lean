/-
  package value's Depth by its contract. No conditions beyond those stated.
-/
import Derived.Test.YtnkoblhdbccbeaaGreatDoorVCmp3
namespace Go.Proofs.YtnkoblhdbccbeaaGreatDoor
open Go.RowKit

def maxI : Int → List Int → Int
  | m, [] => m
  | m, x :: xs => maxI (max m x) xs
/-- how deep a value is, so deep. -/
def depthV : Nat → V → Int
  | 0, _ => 1
  | n + 1, v => 1 + (if v.kind = 4 then maxI 0 (v.list.map (depthV n)) else if v.kind = 5 then maxI 0 (v.fields.map fun p => depthV n p.2) else 0)
theorem maxI_bound (b : Int) : ∀ (l : List Int) (m : Int), m ≤ b → (∀ x ∈ l, x ≤ b) → m ≤ maxI m l ∧ maxI m l ≤ b
  | [], m, h, _ => ⟨Int.le_refl _, h⟩
  | x :: xs, m, h, hx => by
    have hx0 := hx x (by simp)
    have := maxI_bound b xs (max m x) (by omega) fun y hy => hx y (by simp [hy])
    simp only [maxI]
    exact ⟨by omega, this.2⟩
theorem depthV_bound : ∀ (n : Nat) (v : V), 1 ≤ depthV n v ∧ depthV n v ≤ n + 1
  | 0, _ => by simp [depthV]
  | n + 1, v => by
    simp only [depthV]
    split
    · have := maxI_bound ((n : Int) + 1) (v.list.map (depthV n)) 0 (by omega) (fun x hx => by obtain ⟨y, _, rfl⟩ := List.mem_map.1 hx; exact (depthV_bound n y).2)
      omega
    · split
      · have := maxI_bound ((n : Int) + 1) (v.fields.map fun p => depthV n p.2) 0 (by omega) (fun x hx => by obtain ⟨y, _, rfl⟩ := List.mem_map.1 hx; exact (depthV_bound n y.2).2)
        omega
      · omega
theorem maxI_snoc : ∀ (l : List Int) (m x : Int), maxI m (l ++ [x]) = max (maxI m l) x
  | [], _, _ => rfl
  | y :: l, m, x => by simp only [List.cons_append, maxI]; exact maxI_snoc l _ x

set_option maxHeartbeats 2000000 in
theorem Depth_step (n : Nat) (hn : n ≤ 1000) (v : V) (l f : Value) (w : World) (xs : List El) (fs : List Fl) (ea : xs.map El.v = v.list) (ef : fs.map Fl.pair = v.fields)
    (hxs : RowAt (fun _ => True) w 31 5 l xs.length (encEs xs)) (hfs : RowAt (fun _ => True) w 52 6 f fs.length (encFs fs)) (lx : ∀ e ∈ xs, Lies n w e.v e.l e.f) (lf : ∀ e ∈ fs, Lies n w e.v e.l e.f)
    (hg : ∀ x ∈ xs, ∀ W, Below w.heap.size w W → Calls Tryz.prog 21 #[.agg #[.int .i64 x.v.kind, .int .i64 x.v.num, .string x.v.text, x.l, x.f]] W fun e w' => e = .returned (.int .i64 (depthV n x.v)) ∧ Below W.heap.size W w')
    (hf : ∀ x ∈ fs, ∀ W, Below w.heap.size w W → Calls Tryz.prog 21 #[.agg #[.int .i64 x.v.kind, .int .i64 x.v.num, .string x.v.text, x.l, x.f]] W fun e w' => e = .returned (.int .i64 (depthV n x.v)) ∧ Below W.heap.size W w') :
    Calls Tryz.prog 21 #[.agg #[.int .i64 v.kind, .int .i64 v.num, .string v.text, l, f]] w fun e w' => e = .returned (.int .i64 (depthV (n + 1) v)) ∧ Below w.heap.size w w' := by
  have hB : ∀ (o1 : Obj), Below w.heap.size w (w.alloc o1) := fun o1 => (Below.refl _ _).alloc (Nat.le_refl _) _
  obtain ⟨a1, c1, rfl⟩ := hxs.slice
  obtain ⟨a3, c3, rfl⟩ := hfs.slice
  have nx := hxs.2.1
  have nf := hfs.2.1
  simp only [depthV]
  by_cases h4 : v.kind = 4
  · rw [if_pos h4, h4, ← ea, List.map_map]
    clear hf lf hfs ef ea h4
    go_enter Tryz.func21, Tryz.ntmps21
    go_wp2
    go_loopg [3, 5, 15] xs.length (fun gg m _ i wr => ∃ k : Nat, k ≤ xs.length ∧ xs.length - k ≤ gg ∧ i = .int .i64 k ∧ m = .int .i64 (maxI 0 ((xs.take k).map (depthV n ∘ El.v))) ∧ Aside (Below w.heap.size w wr))
    case atStart => exact ⟨0, Nat.zero_le _, by omega, rfl, rfl, hB _⟩
    case round =>
      obtain ⟨k, hk, hgg, rfl, rfl, BW⟩ := hrel
      have hmb := maxI_bound ((n : Int) + 1) ((xs.take k).map (depthV n ∘ El.v)) 0 (by omega) (fun x hx => by obtain ⟨y, _, rfl⟩ := List.mem_map.1 hx; exact (depthV_bound n y.v).2)
      by_cases hlt : k < xs.length
      · obtain ⟨b, c', e1, hbl, _, hc1, hc2, _⟩ := hxs.cells (by omega)
        simp only [Value.slice.injEq, true_and] at e1
        obtain ⟨rfl, rfl⟩ := e1
        obtain ⟨⟨xv, xl, xf⟩, hx⟩ : ∃ x, xs[k]? = some x := ⟨_, List.getElem?_eq_getElem hlt⟩
        have hm : ∀ b, True → b < w.heap.size → True ∧ wr.heap[b]? = w.heap[b]? := fun b _ h => ⟨trivial, BW.out.block b h⟩
        obtain ⟨a0, a1, a2, a3, a4⟩ := (hxs.move hm).el hx
        have hlx : Lies n wr xv xl xf := (lx _ (List.mem_of_getElem? hx)).below BW.out
        have HX : Aside ((xs.take (k + 1)).map (depthV n ∘ El.v) = (xs.take k).map (depthV n ∘ El.v) ++ [depthV n xv]) := by show _ = _; rw [List.take_add_one, hx]; simp
        simp only at a0 a1 a2 a3 a4
        obtain ⟨al, cl, af, cf, rfl, rfl⟩ := hlx.slices
        have hcall := fun W (hW : Below wr.heap.size wr W) => hg _ (List.mem_of_getElem? hx) W (BW.out.trans (hW.mono BW.out.size))
        simp only at hcall
        have zk : (k : Int) < (xs.length : Int) := by omega
        clear hx hm hlx lx hg hxs hmb
        generalize (xs.take k).map (depthV n ∘ El.v) = ms at *
        generalize depthV n xv = dx at *
        go_wp2_with fail
        refine (hcall _ ((Below.refl _ _).alloc (Nat.le_refl _) _)).mono ?_
        rintro e w' ⟨rfl, hb'⟩
        go_wp2
        go_roundg (xs.length - (k + 1))
        case measure => omega
        case rel =>
          refine ⟨k + 1, by omega, by omega, by go_num, ?_, BW.out.trans ((((Below.refl _ _).alloc (Nat.le_refl _) _).trans (hb'.mono (by simp))).mono BW.out.size)⟩
          rw [HX.out, maxI_snoc]
      · have hz : ¬ (k : Int) < (xs.length : Int) := by omega
        have hk' : k = xs.length := by omega
        subst hk'
        rw [List.take_length] at hmb ⊢
        clear hg lx hxs
        obtain ⟨r, hr⟩ : ∃ r, maxI 0 (xs.map (depthV n ∘ El.v)) = r := ⟨_, rfl⟩
        rw [hr] at hmb ⊢
        have HR := (show Aside _ from hr)
        clear hr
        go_wp2
        go_ret
        refine ⟨?_, BW.out⟩
        rw [HR.out]
        rfl
  · rw [if_neg h4]
    by_cases h5 : v.kind = 5
    · rw [if_pos h5, h5, ← ef, List.map_map, show ((fun p : ByteArray × V => depthV n p.2) ∘ Fl.pair) = depthV n ∘ Fl.v from rfl]
      have e4 : ((5 : Int) == 4) = false := rfl
      clear hg lx hxs ef ea h4 h5 e4
      go_enter Tryz.func21, Tryz.ntmps21
      go_wp2
      go_loopg [3, 7, 29] fs.length (fun gg m _ i wr => ∃ k : Nat, k ≤ fs.length ∧ fs.length - k ≤ gg ∧ i = .int .i64 k ∧ m = .int .i64 (maxI 0 ((fs.take k).map (depthV n ∘ Fl.v))) ∧ Aside (Below w.heap.size w wr))
      case atStart => exact ⟨0, Nat.zero_le _, by omega, rfl, rfl, hB _⟩
      case round =>
        obtain ⟨k, hk, hgg, rfl, rfl, BW⟩ := hrel
        have hmb := maxI_bound ((n : Int) + 1) ((fs.take k).map (depthV n ∘ Fl.v)) 0 (by omega) (fun x hx => by obtain ⟨y, _, rfl⟩ := List.mem_map.1 hx; exact (depthV_bound n y.v).2)
        by_cases hlt : k < fs.length
        · obtain ⟨b, c', e1, hbl, _, hc1, hc2, _⟩ := hfs.cells (by omega)
          simp only [Value.slice.injEq, true_and] at e1
          obtain ⟨rfl, rfl⟩ := e1
          obtain ⟨⟨xn, xv, xl, xf⟩, hx⟩ : ∃ x, fs[k]? = some x := ⟨_, List.getElem?_eq_getElem hlt⟩
          have hm : ∀ b, True → b < w.heap.size → True ∧ wr.heap[b]? = w.heap[b]? := fun b _ h => ⟨trivial, BW.out.block b h⟩
          obtain ⟨a0, a1, a2, a3, a4, a5⟩ := (hfs.move hm).fl hx
          have hlx : Lies n wr xv xl xf := (lf _ (List.mem_of_getElem? hx)).below BW.out
          have HX : Aside ((fs.take (k + 1)).map (depthV n ∘ Fl.v) = (fs.take k).map (depthV n ∘ Fl.v) ++ [depthV n xv]) := by show _ = _; rw [List.take_add_one, hx]; simp
          simp only at a0 a1 a2 a3 a4 a5
          obtain ⟨al, cl, af, cf, rfl, rfl⟩ := hlx.slices
          have hcall := fun W (hW : Below wr.heap.size wr W) => hf _ (List.mem_of_getElem? hx) W (BW.out.trans (hW.mono BW.out.size))
          simp only at hcall
          have zk : (k : Int) < (fs.length : Int) := by omega
          clear hx hm hlx lf hf hfs hmb
          generalize (fs.take k).map (depthV n ∘ Fl.v) = ms at *
          generalize depthV n xv = dx at *
          go_wp2_with fail
          refine (hcall _ ((Below.refl _ _).alloc (Nat.le_refl _) _)).mono ?_
          rintro e w' ⟨rfl, hb'⟩
          go_wp2
          go_roundg (fs.length - (k + 1))
          case measure => omega
          case rel =>
            refine ⟨k + 1, by omega, by omega, by go_num, ?_, BW.out.trans ((((Below.refl _ _).alloc (Nat.le_refl _) _).trans (hb'.mono (by simp))).mono BW.out.size)⟩
            rw [HX.out, maxI_snoc]
        · have hz : ¬ (k : Int) < (fs.length : Int) := by omega
          have hk' : k = fs.length := by omega
          subst hk'
          rw [List.take_length] at hmb ⊢
          clear hf lf hfs
          obtain ⟨r, hr⟩ : ∃ r, maxI 0 (fs.map (depthV n ∘ Fl.v)) = r := ⟨_, rfl⟩
          rw [hr] at hmb ⊢
          have HR := (show Aside _ from hr)
          clear hr
          go_wp2
          go_ret
          refine ⟨?_, BW.out⟩
          rw [HR.out]
          rfl
    · rw [if_neg h5]
      have e4 : (v.kind == 4) = false := by simpa using h4
      have e5 : (v.kind == 5) = false := by simpa using h5
      clear hg hf lx lf hxs hfs
      go_enter Tryz.func21, Tryz.ntmps21
      go_wp2
      go_ret
      exact ⟨rfl, hB _⟩

theorem Depth_any : ∀ (n : Nat), n ≤ 1000 → ∀ (v : V) (l f : Value) (w : World), Lies n w v l f →
    Calls Tryz.prog 21 #[.agg #[.int .i64 v.kind, .int .i64 v.num, .string v.text, l, f]] w fun e w' => e = .returned (.int .i64 (depthV (n + 1) v)) ∧ Below w.heap.size w w'
  | 0, _, v, l, f, w, ⟨h1, h2, h3, h4⟩ => by
    subst h3 h4
    exact Depth_step 0 (by omega) v _ _ w [] [] h1.symm h2.symm RowAt.nil RowAt.nil (fun e he => (by cases he)) (fun e he => (by cases he)) (fun x hx => (by cases hx)) (fun x hx => (by cases hx))
  | n + 1, hn, v, l, f, w, ⟨⟨xs, e1, e2, e3⟩, ⟨fs, f1, f2, f3⟩⟩ =>
    Depth_step (n + 1) hn v l f w xs fs e1 f1 e2 f2 (fun e he => Rep.up (e3 e he)) (fun e he => Rep.up (f3 e he))
      (fun x hx W hW => Depth_any n (by omega) x.v x.l x.f W (Lies.below hW (e3 x hx)))
      (fun x hx W hW => Depth_any n (by omega) x.v x.l x.f W (Lies.below hW (f3 x hx)))
end Go.Proofs.YtnkoblhdbccbeaaGreatDoor
