/-
  package value's Cmp, Same by their contracts: how two values stand to one another, so deep. No conditions beyond those stated.
-/
import Derived.Test.YtjihfbahcebljaaDoorVCmp2
import Derived.Shelf.Abstract
namespace Go.Proofs.YtjihfbahcebljaaDoor
open Go.RowKit

theorem cmpField_any (p q : ByteArray) (a b : V) (la fa lb fb : Value) (c : Int) (w : World) (hsa : ∃ a1 n1 c1 a2 n2 c2, la = .slice a1 n1 c1 ∧ fa = .slice a2 n2 c2) (hsb : ∃ a1 n1 c1 a2 n2 c2, lb = .slice a1 n1 c1 ∧ fb = .slice a2 n2 c2)
    (hc : ∀ W, Below w.heap.size w W → Calls Tryd.prog 22 #[.agg #[.int .i64 a.kind, .int .i64 a.num, .string a.text, la, fa], .agg #[.int .i64 b.kind, .int .i64 b.num, .string b.text, lb, fb]] W fun e w' => e = .returned (.int .i64 c) ∧ Below W.heap.size W w') :
    Calls Tryd.prog 34 #[.agg #[.string p, .int .i64 a.kind, .int .i64 a.num, .string a.text, la, fa], .agg #[.string q, .int .i64 b.kind, .int .i64 b.num, .string b.text, lb, fb]] w
      fun e w' => e = .returned (.int .i64 (if cmpT p q = 0 then c else cmpT p q)) ∧ Below w.heap.size w w' := by
  obtain ⟨a1, n1, c1, a2, n2, c2, rfl, rfl⟩ := hsa
  obtain ⟨a3, n3, c3, a4, n4, c4, rfl, rfl⟩ := hsb
  by_cases h : cmpT p q = 0
  · obtain rfl := cmpT_eq h
    rw [if_pos h]
    clear h
    go_enter Tryd.func34, Tryd.ntmps34
    go_wp2_with fail
    refine (hc _ (((Below.refl _ _).alloc (Nat.le_refl _) _).alloc (by simp) _)).mono ?_
    rintro e w' ⟨rfl, hb⟩
    go_wp2
    go_ret
    exact ⟨rfl, (((Below.refl _ _).alloc (Nat.le_refl _) _).alloc (by simp) _).trans (hb.mono (by simp; omega))⟩
  · rw [if_neg h]
    have hne : (p.toList == q.toList) = false := by
      apply beq_false_of_ne
      intro e
      apply h
      unfold cmpT
      rw [e]
      exact good_cmpT.refl q
    clear h hc
    go_enter Tryd.func34, Tryd.ntmps34
    go_wp2_with fail
    refine (Compare_any _ _ _).mono ?_
    rintro e w' ⟨rfl, rfl⟩
    go_wp2
    go_ret
    exact ⟨rfl, (((Below.refl _ _).alloc (Nat.le_refl _) _).alloc (by simp) _)⟩

/-- one level of the order. -/
def cmpStep (c : V → V → Int) (a b : V) : Int :=
  if a.kind = b.kind then
    (if a.kind = 1 ∨ a.kind = 2 then cmpI a.num b.num
     else if a.kind = 3 then cmpT a.text b.text
     else if a.kind = 4 then cmpL c a.list b.list
     else if a.kind = 5 then cmpL (cmpF c) a.fields b.fields
     else 0)
  else cmpI a.kind b.kind
theorem cmpV_step (n : Nat) (a b : V) : cmpV (n + 1) a b = cmpStep (cmpV n) a b := rfl

theorem Rep.shape {ok : Nat → Prop} {W : World} {n : Nat} {v : V} {l f : Value} (h : Rep ok n W v l f) : ∃ a1 n1 c1 a2 n2 c2, l = .slice a1 n1 c1 ∧ f = .slice a2 n2 c2 := by
  obtain ⟨a, b, c, d, e1, e2⟩ := h.slices
  exact ⟨a, _, b, c, _, d, e1, e2⟩
theorem enters22 (args : Array Value) (w : World) : (callFunc 22 args).run Tryd.prog w = .ok (.enter 22 args) w := enters_of Tryd.func22 (by kernel_rfl) rfl args w
theorem enters34 (args : Array Value) (w : World) : (callFunc 34 args).run Tryd.prog w = .ok (.enter 34 args) w := enters_of Tryd.func34 (by kernel_rfl) rfl args w

set_option maxHeartbeats 1000000 in
theorem VCmp_step (n : Nat) (c : V → V → Int) (a b : V) (la fa lb fb : Value) (w : World) (xs ys : List El) (fs gs : List Fl)
    (ea : xs.map El.v = a.list) (eb : ys.map El.v = b.list) (efa : fs.map Fl.pair = a.fields) (efb : gs.map Fl.pair = b.fields)
    (hxs : RowAt (fun _ => True) w 38 5 la xs.length (encEs xs)) (hys : RowAt (fun _ => True) w 38 5 lb ys.length (encEs ys))
    (hfs : RowAt (fun _ => True) w 75 6 fa fs.length (encFs fs)) (hgs : RowAt (fun _ => True) w 75 6 fb gs.length (encFs gs))
    (lx : ∀ e ∈ xs, Lies n w e.v e.l e.f) (ly : ∀ e ∈ ys, Lies n w e.v e.l e.f) (lf : ∀ e ∈ fs, Lies n w e.v e.l e.f) (lg : ∀ e ∈ gs, Lies n w e.v e.l e.f)
    (hg : ∀ x ∈ xs, ∀ y ∈ ys, ∀ W, Below w.heap.size w W → Calls Tryd.prog 22 #[.agg #[.int .i64 x.v.kind, .int .i64 x.v.num, .string x.v.text, x.l, x.f], .agg #[.int .i64 y.v.kind, .int .i64 y.v.num, .string y.v.text, y.l, y.f]] W fun e w' => e = .returned (.int .i64 (c x.v y.v)) ∧ Below W.heap.size W w')
    (hf : ∀ x ∈ fs, ∀ y ∈ gs, ∀ W, Below w.heap.size w W → Calls Tryd.prog 22 #[.agg #[.int .i64 x.v.kind, .int .i64 x.v.num, .string x.v.text, x.l, x.f], .agg #[.int .i64 y.v.kind, .int .i64 y.v.num, .string y.v.text, y.l, y.f]] W fun e w' => e = .returned (.int .i64 (c x.v y.v)) ∧ Below W.heap.size W w') :
    Calls Tryd.prog 22 #[.agg #[.int .i64 a.kind, .int .i64 a.num, .string a.text, la, fa], .agg #[.int .i64 b.kind, .int .i64 b.num, .string b.text, lb, fb]] w
      fun e w' => e = .returned (.int .i64 (cmpStep c a b)) ∧ Below w.heap.size w w' := by
  have hB : ∀ (o1 o2 : Obj), Below w.heap.size w ((w.alloc o1).alloc o2) := fun o1 o2 => ((Below.refl _ _).alloc (Nat.le_refl _) _).alloc (by simp) _
  have hL : ∀ W, Below w.heap.size w W → Calls Tryd.prog 32 #[la, lb, .func (.func 22) #[] #[]] W fun e w' => e = .returned (.int .i64 (cmpL c a.list b.list)) ∧ Below W.heap.size W w' := by
    intro W hW
    rw [← ea, ← eb]
    have hm : ∀ b, True → b < w.heap.size → True ∧ W.heap[b]? = w.heap[b]? := fun b _ h => ⟨trivial, hW.block b h⟩
    exact CompareFuncV_any 22 enters22 c n xs ys la lb W (hxs.move hm) (hys.move hm) (fun e he => (lx e he).below hW) (fun e he => (ly e he).below hW) fun x hx y hy W' hW' => hg x hx y hy W' (hW.trans (hW'.mono hW.size))
  have hF : ∀ W, Below w.heap.size w W → Calls Tryd.prog 33 #[fa, fb, .func (.func 34) #[] #[]] W fun e w' => e = .returned (.int .i64 (cmpL (cmpF c) a.fields b.fields)) ∧ Below W.heap.size W w' := by
    intro W hW
    rw [← efa, ← efb]
    have hm : ∀ b, True → b < w.heap.size → True ∧ W.heap[b]? = w.heap[b]? := fun b _ h => ⟨trivial, hW.block b h⟩
    exact CompareFuncF_any 34 enters34 (cmpF c) n fs gs fa fb W (hfs.move hm) (hgs.move hm) (fun e he => (lf e he).below hW) (fun e he => (lg e he).below hW) fun x hx y hy W' hW' =>
      cmpField_any x.name y.name x.v y.v x.l x.f y.l y.f (c x.v y.v) W' (lf x hx).shape (lg y hy).shape fun W2 hW2 => hf x hx y hy W2 ((hW.trans (hW'.mono hW.size)).trans (hW2.mono (Nat.le_trans hW.size hW'.size)))
  obtain ⟨a1, c1, rfl⟩ := hxs.slice
  obtain ⟨a2, c2, rfl⟩ := hys.slice
  obtain ⟨a3, c3, rfl⟩ := hfs.slice
  obtain ⟨a4, c4, rfl⟩ := hgs.slice
  clear hxs hys hfs hgs lx ly lf lg hg hf ea eb efa efb
  unfold cmpStep
  by_cases hk : a.kind = b.kind
  · rw [if_pos hk]
    generalize b.kind = kb at *
    subst hk
    by_cases h1 : a.kind = 1
    · rw [if_pos (.inl h1), h1]
      clear hL hF h1
      go_enter Tryd.func22, Tryd.ntmps22
      go_wp2_with (go_at_call 27; refine (cmpN_any _ _ _).mono ?_; rintro e w' ⟨rfl, rfl⟩)
      go_ret
      exact ⟨rfl, hB _ _⟩
    by_cases h2 : a.kind = 2
    · rw [if_pos (.inr h2), h2]
      clear hL hF h1 h2
      go_enter Tryd.func22, Tryd.ntmps22
      go_wp2_with (go_at_call 27; refine (cmpN_any _ _ _).mono ?_; rintro e w' ⟨rfl, rfl⟩)
      go_ret
      exact ⟨rfl, hB _ _⟩
    rw [if_neg (by omega)]
    by_cases h3 : a.kind = 3
    · rw [if_pos h3, h3]
      clear hL hF h1 h2 h3
      go_enter Tryd.func22, Tryd.ntmps22
      go_wp2_with (go_at_call 31; refine (Compare_any _ _ _).mono ?_; rintro e w' ⟨rfl, rfl⟩)
      go_ret
      exact ⟨rfl, hB _ _⟩
    rw [if_neg h3]
    by_cases h4 : a.kind = 4
    · rw [if_pos h4, h4]
      clear hF h1 h2 h3 h4
      go_enter Tryd.func22, Tryd.ntmps22
      go_wp2_with fail
      refine (hL _ (hB _ _)).mono ?_
      rintro e w' ⟨rfl, hb⟩
      go_wp2
      go_ret
      exact ⟨rfl, (hB _ _).trans (hb.mono (hB _ _).size)⟩
    rw [if_neg h4]
    by_cases h5 : a.kind = 5
    · rw [if_pos h5, h5]
      clear hL h1 h2 h3 h4 h5
      go_enter Tryd.func22, Tryd.ntmps22
      go_wp2_with fail
      refine (hF _ (hB _ _)).mono ?_
      rintro e w' ⟨rfl, hb⟩
      go_wp2
      go_ret
      exact ⟨rfl, (hB _ _).trans (hb.mono (hB _ _).size)⟩
    rw [if_neg h5]
    clear hL hF
    have e1 : (a.kind == 1) = false := by simpa using h1
    have e2 : (a.kind == 2) = false := by simpa using h2
    have e3 : (a.kind == 3) = false := by simpa using h3
    have e4 : (a.kind == 4) = false := by simpa using h4
    have e5 : (a.kind == 5) = false := by simpa using h5
    go_enter Tryd.func22, Tryd.ntmps22
    go_wp2
    go_ret
    exact ⟨rfl, hB _ _⟩
  · rw [if_neg hk]
    have hne : (a.kind != b.kind) = true := by simpa using hk
    clear hL hF
    go_enter Tryd.func22, Tryd.ntmps22
    go_wp2_with (go_at_call 30; refine (cmpK_any _ _ _).mono ?_; rintro e w' ⟨rfl, rfl⟩)
    go_ret
    exact ⟨rfl, hB _ _⟩

theorem VCmp_any : ∀ (n : Nat) (a b : V) (la fa lb fb : Value) (w : World), Lies n w a la fa → Lies n w b lb fb →
    Calls Tryd.prog 22 #[.agg #[.int .i64 a.kind, .int .i64 a.num, .string a.text, la, fa], .agg #[.int .i64 b.kind, .int .i64 b.num, .string b.text, lb, fb]] w
      fun e w' => e = .returned (.int .i64 (cmpV (n + 1) a b)) ∧ Below w.heap.size w w'
  | 0, a, b, la, fa, lb, fb, w, ⟨h1, h2, h3, h4⟩, ⟨k1, k2, k3, k4⟩ => by
    subst h3 h4 k3 k4
    exact VCmp_step 0 (cmpV 0) a b _ _ _ _ w [] [] [] [] h1.symm k1.symm h2.symm k2.symm RowAt.nil RowAt.nil RowAt.nil RowAt.nil (fun e he => by cases he) (fun e he => by cases he) (fun e he => by cases he) (fun e he => by cases he) (fun x hx => by cases hx) (fun x hx => by cases hx)
  | n + 1, a, b, la, fa, lb, fb, w, ⟨⟨xs, e1, e2, e3⟩, ⟨fs, f1, f2, f3⟩⟩, ⟨⟨ys, k1, k2, k3⟩, ⟨gs, g1, g2, g3⟩⟩ =>
    VCmp_step n (cmpV (n + 1)) a b la fa lb fb w xs ys fs gs e1 k1 f1 g1 e2 k2 f2 g2 e3 k3 f3 g3
      (fun x hx y hy W hW => VCmp_any n x.v y.v x.l x.f y.l y.f W (Lies.below hW (e3 x hx)) (Lies.below hW (k3 y hy)))
      (fun x hx y hy W hW => VCmp_any n x.v y.v x.l x.f y.l y.f W (Lies.below hW (f3 x hx)) (Lies.below hW (g3 y hy)))

theorem Same_any (n : Nat) (a b : V) (la fa lb fb : Value) (w : World) (ha : Lies n w a la fa) (hb : Lies n w b lb fb) :
    Calls Tryd.prog 14 #[.agg #[.int .i64 a.kind, .int .i64 a.num, .string a.text, la, fa], .agg #[.int .i64 b.kind, .int .i64 b.num, .string b.text, lb, fb]] w
      fun e w' => e = .returned (.bool (cmpV (n + 1) a b == 0)) ∧ Below w.heap.size w w' := by
  have hB : ∀ (o1 o2 : Obj), Below w.heap.size w ((w.alloc o1).alloc o2) := fun o1 o2 => ((Below.refl _ _).alloc (Nat.le_refl _) _).alloc (by simp) _
  have hc := fun W (hW : Below w.heap.size w W) => VCmp_any n a b la fa lb fb W (ha.below hW) (hb.below hW)
  obtain ⟨a1, n1, c1, a2, n2, c2, rfl, rfl⟩ := ha.shape
  obtain ⟨a3, n3, c3, a4, n4, c4, rfl, rfl⟩ := hb.shape
  clear ha hb
  generalize cmpV (n + 1) a b = r at *
  go_enter Tryd.func14, Tryd.ntmps14
  go_wp2_with fail
  refine (hc _ (hB _ _)).mono ?_
  rintro e w' ⟨rfl, hb⟩
  go_wp2
  go_ret
  exact ⟨rfl, (hB _ _).trans (hb.mono (hB _ _).size)⟩
end Go.Proofs.YtjihfbahcebljaaDoor
