/-
  The law's Cmp at every value, by its contract. No conditions beyond those stated.
-/
import Derived.Test.YtehjdamdlokoaaaDoorVLCmp2
namespace Go.Proofs.YtehjdamdlokoaaaDoor
open Go.RowKit

set_option maxHeartbeats 1000000 in
theorem LCmp_step (n : Nat) (c : V → V → Int) (a b : V) (la fa lb fb : Value) (w : World) (xs ys : List El) (fs gs : List Fl)
    (ea : xs.map El.v = a.list) (eb : ys.map El.v = b.list) (efa : fs.map Fl.pair = a.fields) (efb : gs.map Fl.pair = b.fields)
    (hxs : RowAt (fun _ => True) w 28 5 la xs.length (encEs xs)) (hys : RowAt (fun _ => True) w 28 5 lb ys.length (encEs ys))
    (hfs : RowAt (fun _ => True) w 50 6 fa fs.length (encFs fs)) (hgs : RowAt (fun _ => True) w 50 6 fb gs.length (encFs gs))
    (lx : ∀ e ∈ xs, Lies n w e.v e.l e.f) (ly : ∀ e ∈ ys, Lies n w e.v e.l e.f) (lf : ∀ e ∈ fs, Lies n w e.v e.l e.f) (lg : ∀ e ∈ gs, Lies n w e.v e.l e.f)
    (hg : ∀ x ∈ xs, ∀ y ∈ ys, ∀ W, Below w.heap.size w W → Calls Tryd.prog 14 #[.agg #[.int .i64 x.v.kind, .int .i64 x.v.num, .string x.v.text, x.l, x.f], .agg #[.int .i64 y.v.kind, .int .i64 y.v.num, .string y.v.text, y.l, y.f]] W fun e w' => e = .returned (.int .i64 (c x.v y.v)) ∧ Below W.heap.size W w')
    (hf : ∀ x ∈ fs, ∀ y ∈ gs, ∀ W, Below w.heap.size w W → Calls Tryd.prog 14 #[.agg #[.int .i64 x.v.kind, .int .i64 x.v.num, .string x.v.text, x.l, x.f], .agg #[.int .i64 y.v.kind, .int .i64 y.v.num, .string y.v.text, y.l, y.f]] W fun e w' => e = .returned (.int .i64 (c x.v y.v)) ∧ Below W.heap.size W w') :
    Calls Tryd.prog 14 #[.agg #[.int .i64 a.kind, .int .i64 a.num, .string a.text, la, fa], .agg #[.int .i64 b.kind, .int .i64 b.num, .string b.text, lb, fb]] w
      fun e w' => e = .returned (.int .i64 (cmpStep c a b)) ∧ Below w.heap.size w w' := by
  have hB : ∀ (o1 o2 : Obj), Below w.heap.size w ((w.alloc o1).alloc o2) := fun o1 o2 => ((Below.refl _ _).alloc (Nat.le_refl _) _).alloc (by simp) _
  have hsl1 : ∃ a n c, la = .slice a n c := by obtain ⟨a, c, h⟩ := hxs.slice; exact ⟨a, _, c, h⟩
  have hsl2 : ∃ a n c, lb = .slice a n c := by obtain ⟨a, c, h⟩ := hys.slice; exact ⟨a, _, c, h⟩
  have hsl3 : ∃ a n c, fa = .slice a n c := by obtain ⟨a, c, h⟩ := hfs.slice; exact ⟨a, _, c, h⟩
  have hsl4 : ∃ a n c, fb = .slice a n c := by obtain ⟨a, c, h⟩ := hgs.slice; exact ⟨a, _, c, h⟩
  have hL := LCmp_list n c a.num b.num a.text b.text la fa lb fb w xs ys hxs hys hsl3 hsl4 lx ly hg
  have hF := LCmp_obj n c a.num b.num a.text b.text la fa lb fb w fs gs hfs hgs hsl1 hsl2 lf lg hf
  rw [ea, eb] at hL
  rw [efa, efb] at hF
  obtain ⟨a1, n1, c1, rfl⟩ := hsl1
  obtain ⟨a2, n2, c2, rfl⟩ := hsl2
  obtain ⟨a3, n3, c3, rfl⟩ := hsl3
  obtain ⟨a4, n4, c4, rfl⟩ := hsl4
  clear hxs hys hfs hgs lx ly lf lg hg hf ea eb efa efb
  unfold cmpStep
  by_cases hk : a.kind = b.kind
  · rw [if_pos hk]
    generalize b.kind = kb at *
    subst hk
    by_cases h1 : a.kind = 1
    · rw [if_pos (.inl h1), h1]
      clear hL hF h1
      go_enter Tryd.func14, Tryd.ntmps14
      go_wp2_with (go_at_call 23; refine (sign_any _ _ _).mono ?_; rintro e w' ⟨rfl, rfl⟩)
      go_ret
      exact ⟨rfl, hB _ _⟩
    by_cases h2 : a.kind = 2
    · rw [if_pos (.inr h2), h2]
      clear hL hF h1 h2
      go_enter Tryd.func14, Tryd.ntmps14
      go_wp2_with (go_at_call 23; refine (sign_any _ _ _).mono ?_; rintro e w' ⟨rfl, rfl⟩)
      go_ret
      exact ⟨rfl, hB _ _⟩
    rw [if_neg (by omega)]
    by_cases h3 : a.kind = 3
    · rw [if_pos h3, h3]
      clear hL hF h1 h2 h3
      go_enter Tryd.func14, Tryd.ntmps14
      go_wp2_with (go_at_call 13; refine (Texts_any _ _ _).mono ?_; rintro e w' ⟨rfl, rfl⟩)
      go_ret
      exact ⟨rfl, hB _ _⟩
    rw [if_neg h3]
    by_cases h4 : a.kind = 4
    · rw [if_pos h4, h4]
      exact hL
    rw [if_neg h4]
    by_cases h5 : a.kind = 5
    · rw [if_pos h5, h5]
      exact hF
    rw [if_neg h5]
    clear hL hF
    have e1 : (a.kind == 1) = false := by simpa using h1
    have e2 : (a.kind == 2) = false := by simpa using h2
    have e3 : (a.kind == 3) = false := by simpa using h3
    have e4 : (a.kind == 4) = false := by simpa using h4
    have e5 : (a.kind == 5) = false := by simpa using h5
    go_enter Tryd.func14, Tryd.ntmps14
    go_wp2
    go_ret
    exact ⟨rfl, hB _ _⟩
  · rw [if_neg hk]
    have hne : (a.kind != b.kind) = true := by simpa using hk
    clear hL hF
    go_enter Tryd.func14, Tryd.ntmps14
    go_wp2_with (go_at_call 23; refine (sign_any _ _ _).mono ?_; rintro e w' ⟨rfl, rfl⟩)
    go_ret
    exact ⟨rfl, hB _ _⟩

theorem LCmp_any : ∀ (n : Nat) (a b : V) (la fa lb fb : Value) (w : World), Lies n w a la fa → Lies n w b lb fb →
    Calls Tryd.prog 14 #[.agg #[.int .i64 a.kind, .int .i64 a.num, .string a.text, la, fa], .agg #[.int .i64 b.kind, .int .i64 b.num, .string b.text, lb, fb]] w
      fun e w' => e = .returned (.int .i64 (cmpV (n + 1) a b)) ∧ Below w.heap.size w w'
  | 0, a, b, la, fa, lb, fb, w, ⟨h1, h2, h3, h4⟩, ⟨k1, k2, k3, k4⟩ => by
    subst h3 h4 k3 k4
    exact LCmp_step 0 (cmpV 0) a b _ _ _ _ w [] [] [] [] h1.symm k1.symm h2.symm k2.symm RowAt.nil RowAt.nil RowAt.nil RowAt.nil (fun e he => (by cases he)) (fun e he => (by cases he)) (fun e he => (by cases he)) (fun e he => (by cases he)) (fun x hx => (by cases hx)) (fun x hx => (by cases hx))
  | n + 1, a, b, la, fa, lb, fb, w, ⟨⟨xs, e1, e2, e3⟩, ⟨fs, f1, f2, f3⟩⟩, ⟨⟨ys, k1, k2, k3⟩, ⟨gs, g1, g2, g3⟩⟩ =>
    LCmp_step n (cmpV (n + 1)) a b la fa lb fb w xs ys fs gs e1 k1 f1 g1 e2 k2 f2 g2 e3 k3 f3 g3
      (fun x hx y hy W hW => LCmp_any n x.v y.v x.l x.f y.l y.f W (Lies.below hW (e3 x hx)) (Lies.below hW (k3 y hy)))
      (fun x hx y hy W hW => LCmp_any n x.v y.v x.l x.f y.l y.f W (Lies.below hW (f3 x hx)) (Lies.below hW (g3 y hy)))
end Go.Proofs.YtehjdamdlokoaaaDoor
