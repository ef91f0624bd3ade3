/-
  package twin's Value by its contract. No conditions beyond those stated.
  cmp.Compare, strings.Compare, slices.CompareFunc at values and at fields, by their contracts. No conditions beyond those stated.
  slices.CompareFunc at fields by its contract. No conditions beyond those stated.
  package value's Cmp, Same by their contracts: how two values stand to one another, so deep. No conditions beyond those stated.
-/
import Derived.Test.YtgcccihnlecpnaaGreatDoorU2
import Derived.Lib.Bytealg
import Derived.Deep.LoopGhost
import Derived.WalkLawsBesides
import Derived.Lib.Walk
import Derived.Shelf.Abstract
namespace Go.Proofs.YtgcccihnlecpnaaGreatDoor
open Go.RowKit

theorem bcell {W w1 : World} (hb : Below W.heap.size W w1) : (∀ b o, b < W.heap.size → w1.cell? ⟨b, o, none⟩ = W.cell? ⟨b, o, none⟩) ∧ (∀ b o, b < W.heap.size → w1.frozen? ⟨b, o, none⟩ = W.frozen? ⟨b, o, none⟩) :=
  ⟨fun b o h => hb.cell (p := ⟨b, o, none⟩) h, fun b o h => hb.frozen (p := ⟨b, o, none⟩) h⟩

theorem row5 {W : World} {B t : Nat} {a0 a1 a2 a3 a4 : Value} (h : W.heap[B]? = some (.cells #[a0, a1, a2, a3, a4] t (0, 0))) :
    W.cell? ⟨B, 0, none⟩ = some a0 ∧ W.cell? ⟨B, 1, none⟩ = some a1 ∧ W.cell? ⟨B, 2, none⟩ = some a2 ∧ W.cell? ⟨B, 3, none⟩ = some a3 ∧ W.cell? ⟨B, 4, none⟩ = some a4 ∧ ∀ j, W.frozen? ⟨B, j, none⟩ = false := by
  simp [World.cell?, World.frozen?, h]
theorem row6 {W : World} {B t : Nat} {a0 a1 a2 a3 a4 a5 : Value} (h : W.heap[B]? = some (.cells #[a0, a1, a2, a3, a4, a5] t (0, 0))) :
    W.cell? ⟨B, 0, none⟩ = some a0 ∧ W.cell? ⟨B, 1, none⟩ = some a1 ∧ W.cell? ⟨B, 2, none⟩ = some a2 ∧ W.cell? ⟨B, 3, none⟩ = some a3 ∧ W.cell? ⟨B, 4, none⟩ = some a4 ∧ W.cell? ⟨B, 5, none⟩ = some a5 ∧ ∀ j, W.frozen? ⟨B, j, none⟩ = false := by
  simp [World.cell?, World.frozen?, h]
theorem heap_alloc2_old {w : World} {o1 o2 : Obj} : ((w.alloc o1).alloc o2).heap[w.heap.size]? = some o1 := by
  rw [Below.heap_alloc (w.alloc o1) o2 w.heap.size (by simp)]; exact heap_alloc_new w _
theorem heap_alloc2_new {w : World} {o1 o2 : Obj} : ((w.alloc o1).alloc o2).heap[w.heap.size + 1]? = some o2 := by
  have := heap_alloc_new (w.alloc o1) o2
  simpa using this

/-- a copy of a value: its fields' row is apart from all else. -/
def CopyV (m : Nat) (w w' : World) (v : V) (l' f' : Value) : Prop :=
  ∃ B, w.heap.size ≤ B ∧ (∃ es : List El, es.map El.v = v.list ∧ RowAt (fun k => w.heap.size ≤ k ∧ k ≠ B) w' 28 5 l' es.length (encEs es) ∧ ∀ e ∈ es, Rep (fun k => w.heap.size ≤ k ∧ k ≠ B) m w' e.v e.l e.f) ∧
    (∃ fs : List Fl, fs.map Fl.pair = v.fields ∧ RowAt (fun k => k = B) w' 44 6 f' fs.length (encFs fs) ∧ (∀ a n c, f' = .slice a n c → c = n) ∧ ∀ e ∈ fs, Rep (fun k => w.heap.size ≤ k ∧ k ≠ B) m w' e.v e.l e.f)
theorem CopyV.rep {m : Nat} {w w' : World} {v : V} {l' f' : Value} (h : CopyV m w w' v l' f') : Rep (fun k => w.heap.size ≤ k) (m + 1) w' v l' f' := by
  obtain ⟨B, hB, ⟨es, e1, e2, e3⟩, ⟨fs, f1, f2, _, f3⟩⟩ := h
  exact ⟨⟨es, e1, e2.move fun b hb _ => ⟨hb.1, rfl⟩, fun e he => (e3 e he).move fun b hb _ => ⟨hb.1, rfl⟩⟩, ⟨fs, f1, f2.move fun b hb _ => ⟨by omega, rfl⟩, fun e he => (f3 e he).move fun b hb _ => ⟨hb.1, rfl⟩⟩⟩

set_option maxHeartbeats 1000000 in
theorem twinValue_step (n m : Nat) (v : V) (l f : Value) (w : World) (xs : List El) (fs : List Fl) (ea : xs.map El.v = v.list) (ef : fs.map Fl.pair = v.fields)
    (hxs : RowAt (fun _ => True) w 28 5 l xs.length (encEs xs)) (hfs : RowAt (fun _ => True) w 44 6 f fs.length (encFs fs)) (lx : ∀ e ∈ xs, Lies n w e.v e.l e.f) (lf : ∀ e ∈ fs, Lies n w e.v e.l e.f)
    (hv : ∀ (u : V) (ul uf : Value) (W : World), Lies n W u ul uf → (∃ W0, Lies n W0 u ul uf ∧ ((∃ e ∈ xs, e.v = u) ∨ (∃ e ∈ fs, e.v = u))) → Calls Tryz.prog 19 #[.agg #[.int .i64 u.kind, .int .i64 u.num, .string u.text, ul, uf]] W fun r w' => ∃ l' f', r = .returned (.agg #[.int .i64 u.kind, .int .i64 u.num, .string u.text, l', f']) ∧ Rep (fun k => W.heap.size ≤ k) m w' u l' f' ∧ Below W.heap.size W w') :
    Calls Tryz.prog 19 #[.agg #[.int .i64 v.kind, .int .i64 v.num, .string v.text, l, f]] w fun r w' => ∃ l' f', r = .returned (.agg #[.int .i64 v.kind, .int .i64 v.num, .string v.text, l', f']) ∧ CopyV m w w' v l' f' ∧ Below w.heap.size w w' := by
  have hL : ∀ W, Below w.heap.size w W → Calls Tryz.prog 31 #[l] W fun r w' => ∃ l', r = .returned l' ∧ CopyL m W w' xs l' ∧ Below W.heap.size W w' := by
    intro W hW
    have hm : ∀ b, True → b < w.heap.size → True ∧ W.heap[b]? = w.heap[b]? := fun b _ h => ⟨trivial, hW.block b h⟩
    exact twinList_any n m xs l W (hxs.move hm) (fun e he => (lx e he).below hW) fun e he W' hW' => hv e.v e.l e.f W' ((lx e he).below (hW.trans (hW'.mono hW.size))) ⟨w, lx e he, .inl ⟨e, he, rfl⟩⟩
  have hF : ∀ W, Below w.heap.size w W → Calls Tryz.prog 32 #[f] W fun r w' => ∃ l', r = .returned l' ∧ CopyF m W w' fs l' ∧ Below W.heap.size W w' := by
    intro W hW
    have hm : ∀ b, True → b < w.heap.size → True ∧ W.heap[b]? = w.heap[b]? := fun b _ h => ⟨trivial, hW.block b h⟩
    exact twinFields_any n m fs f W (hfs.move hm) (fun e he => (lf e he).below hW) fun e he W' hW' => hv e.v e.l e.f W' ((lf e he).below (hW.trans (hW'.mono hW.size))) ⟨w, lf e he, .inr ⟨e, he, rfl⟩⟩
  obtain ⟨a1, c1, rfl⟩ := hxs.slice
  obtain ⟨a3, c3, rfl⟩ := hfs.slice
  have hB : ∀ (o1 o2 : Obj), Below w.heap.size w ((w.alloc o1).alloc o2) := fun o1 o2 => ((Below.refl _ _).alloc (Nat.le_refl _) _).alloc (by simp) _
  clear hxs hfs lx lf hv
  go_enter Tryz.func19, Tryz.ntmps19
  go_wp2_with fail
  refine (hL _ (hB _ _)).mono ?_
  rintro e w1 ⟨l', rfl, hcl, hb1⟩
  obtain ⟨es', e1, e2, e3⟩ := hcl
  obtain ⟨al', cl', rfl⟩ := e2.slice
  have r1 := (hb1.block w.heap.size (by simp; omega)).trans heap_alloc2_old
  have q1 := (hb1.block (w.heap.size + 1) (by simp)).trans heap_alloc2_new
  have hB1 : Below w.heap.size w w1 := (hB _ _).trans (hb1.mono (hB _ _).size)
  have hBs : ∀ u, Below w.heap.size w (w1.setCell ⟨w.heap.size, 3, none⟩ u) := fun u => hB1.setCell (Nat.le_refl _) u
  obtain ⟨p0, p1, p2, p3, p4, pf⟩ := row5 r1
  have S := (show Aside _ from And.intro hb1 (And.intro e2 (And.intro e3 (And.intro r1 q1))))
  clear e2 e3 hb1 r1 q1
  go_wp2_with fail
  refine (hF _ (hBs _)).mono ?_
  rintro e w2 ⟨f', rfl, hcf, hb2⟩
  obtain ⟨fs', f1, f2, f3, f4⟩ := hcf
  obtain ⟨af', cf', rfl⟩ := f2.slice
  obtain ⟨hb1, e2, e3, r1, q1⟩ := S.out
  have hz1 : w.heap.size + 1 < w1.heap.size := lt_of_heap q1
  have r2 := (hb2.block w.heap.size (by simp; omega)).trans (setCell_row r1 (i := 3) _)
  have q2 := ((hb2.block (w.heap.size + 1) (by simp; omega)).trans (heap_setCell_ne _ _ _ (by simp))).trans q1
  rw [show (#[Value.int .i64 v.kind, .int .i64 v.num, .string v.text, .slice a1 xs.length c1, .slice a3 fs.length c3].setIfInBounds 3 (.slice al' es'.length cl')) = #[Value.int .i64 v.kind, .int .i64 v.num, .string v.text, .slice al' es'.length cl', .slice a3 fs.length c3] from rfl] at r2
  obtain ⟨k0, k1, k2, k3, k4, kf⟩ := row5 r2
  obtain ⟨o0, o1, o2, o3, o4, of⟩ := row5 q2
  have T := (show Aside _ from And.intro hb2 (And.intro f2 (And.intro f3 f4)))
  clear f2 f3 f4 hb2 p0 p1 p2 p3 p4 pf r1 q1 r2 q2 hb1 e2 e3
  go_wp2
  refine bodyPost_ret (v := .agg #[.int .i64 v.kind, .int .i64 v.num, .string v.text, .slice al' es'.length cl', .slice af' fs'.length cf']) (by simp [results, Tryz.results19, go_sem, o0, o1, o2, o3, o4]) rfl ⟨_, _, rfl, ?_, ?_⟩
  · obtain ⟨hb1, e2, e3, r1, q1⟩ := S.out
    obtain ⟨hb2, f2, f3, f4⟩ := T.out
    generalize hFW : (((((w2.setCell ⟨w.heap.size, 4, none⟩ (.slice af' fs'.length cf')).setCell ⟨w.heap.size + 1, 0, none⟩ (.int .i64 v.kind)).setCell ⟨w.heap.size + 1, 1, none⟩ (.int .i64 v.num)).setCell ⟨w.heap.size + 1, 2, none⟩ (.string v.text)).setCell ⟨w.heap.size + 1, 3, none⟩ (.slice al' es'.length cl')).setCell ⟨w.heap.size + 1, 4, none⟩ (.slice af' fs'.length cf') = FW
    have hfin : ∀ b, b ≠ w.heap.size → b ≠ w.heap.size + 1 → FW.heap[b]? = w2.heap[b]? := by
      intro b h1 h2
      rw [← hFW, heap_setCell_ne _ _ _ h2, heap_setCell_ne _ _ _ h2, heap_setCell_ne _ _ _ h2, heap_setCell_ne _ _ _ h2, heap_setCell_ne _ _ _ h2, heap_setCell_ne _ _ _ h1]
    simp only [World.size_setCell, World.size_alloc] at e2 e3 f2 f4 hb2
    have hold : ∀ b, w.heap.size + 1 < b → b < w1.heap.size → FW.heap[b]? = w1.heap[b]? := by
      intro b h1 h2
      rw [hfin b (by omega) (by omega), hb2.block b h2, heap_setCell_ne _ _ _ (by simp; omega)]
    refine ⟨w1.heap.size, hB1.size, ⟨es', e1.trans ea, e2.move fun b hb hl => ⟨⟨by omega, by omega⟩, hold b (by omega) hl⟩, fun e he => (e3 e he).move fun b hb hl => ⟨⟨by omega, by omega⟩, hold b (by omega) hl⟩⟩,
      ⟨fs', f1.trans ef, f2.move fun b hb hl => ⟨hb, hfin b (by omega) (by omega)⟩, f3, fun e he => (f4 e he).move fun b hb hl => ⟨⟨by omega, by omega⟩, hfin b (by omega) (by omega)⟩⟩⟩
  · have hB2 : Below w.heap.size w w2 := (hBs _).trans (T.out.1.mono (hBs _).size)
    exact ((((((hB2.setCell (Nat.le_refl _) _).setCell (Nat.le_succ _) _).setCell (Nat.le_succ _) _).setCell (Nat.le_succ _) _).setCell (Nat.le_succ _) _).setCell (Nat.le_succ _) _)

theorem twinValue_any : ∀ (n : Nat) (v : V) (l f : Value) (w : World), Lies n w v l f →
    Calls Tryz.prog 19 #[.agg #[.int .i64 v.kind, .int .i64 v.num, .string v.text, l, f]] w fun r w' => ∃ l' f', r = .returned (.agg #[.int .i64 v.kind, .int .i64 v.num, .string v.text, l', f']) ∧ CopyV n w w' v l' f' ∧ Below w.heap.size w w'
  | 0, v, l, f, w, ⟨h1, h2, h3, h4⟩ => by
    subst h3 h4
    refine twinValue_step 0 0 v _ _ w [] [] h1.symm h2.symm RowAt.nil RowAt.nil (fun e he => by cases he) (fun e he => by cases he) ?_
    rintro u ul uf W _ ⟨_, _, ⟨e, he, _⟩ | ⟨e, he, _⟩⟩
    · cases he
    · cases he
  | n + 1, v, l, f, w, ⟨⟨xs, e1, e2, e3⟩, ⟨fs, f1, f2, f3⟩⟩ =>
    twinValue_step n (n + 1) v l f w xs fs e1 f1 e2 f2 e3 f3 fun u ul uf W hu _ => (twinValue_any n u ul uf W hu).mono fun _ _ ⟨l', f', h1, h2, h3⟩ => ⟨l', f', h1, h2.rep, h3⟩
end Go.Proofs.YtgcccihnlecpnaaGreatDoor

namespace Go.Proofs.YtgcccihnlecpnaaGreatDoor
open Go.RowKit

theorem cmpK_any (a b : Int) (w : World) : Calls Tryz.prog 33 #[.int .i64 a, .int .i64 b] w fun e w' => e = .returned (.int .i64 (cmpI a b)) ∧ w' = w := by
  unfold cmpI
  by_cases h1 : a < b
  · rw [if_pos h1]
    go_enter Tryz.func33, Tryz.ntmps33
    go_wp2
    go_ret
    exact ⟨rfl, rfl⟩
  · rw [if_neg h1]
    by_cases h2 : b < a
    · rw [if_pos h2]
      go_enter Tryz.func33, Tryz.ntmps33
      go_wp2
      go_ret
      exact ⟨rfl, rfl⟩
    · rw [if_neg h2]
      go_enter Tryz.func33, Tryz.ntmps33
      go_wp2
      go_ret
      exact ⟨rfl, rfl⟩
theorem cmpN_any (a b : Int) (w : World) : Calls Tryz.prog 34 #[.int .i64 a, .int .i64 b] w fun e w' => e = .returned (.int .i64 (cmpI a b)) ∧ w' = w := by
  unfold cmpI
  by_cases h1 : a < b
  · rw [if_pos h1]
    go_enter Tryz.func34, Tryz.ntmps34
    go_wp2
    go_ret
    exact ⟨rfl, rfl⟩
  · rw [if_neg h1]
    by_cases h2 : b < a
    · rw [if_pos h2]
      go_enter Tryz.func34, Tryz.ntmps34
      go_wp2
      go_ret
      exact ⟨rfl, rfl⟩
    · rw [if_neg h2]
      go_enter Tryz.func34, Tryz.ntmps34
      go_wp2
      go_ret
      exact ⟨rfl, rfl⟩

theorem compareBytes_eq : ∀ a b, Lib.compareBytes a b = cmpB a b
  | [], [] => rfl
  | [], _ :: _ => rfl
  | _ :: _, [] => rfl
  | x :: xs, y :: ys => by
    simp only [Lib.compareBytes, cmpB, compareBytes_eq xs ys, UInt8.lt_iff_toNat_lt]
theorem cmpT_data (a b : ByteArray) : cmpT a b = cmpB a.data.toList b.data.toList := by
  unfold cmpT
  rw [Lib.toList_data, Lib.toList_data]

set_option maxHeartbeats 1000000 in
set_option maxRecDepth 100000 in
theorem CompareString_any (a b : ByteArray) (w : World) : Calls Tryz.prog 55 #[.string a, .string b] w fun e w' => e = .returned (.int .i64 (cmpT a b)) ∧ w' = w := by
  rw [cmpT_data, ← compareBytes_eq]
  go_enter Tryz.func55, Tryz.ntmps55
  go_wp2
  rw [run_callFunc_extern Tryz.func69 (by kernel_rfl) (by kernel_rfl) (by kernel_rfl) (e := Extern.BytealgCompare.compare) (by kernel_rfl), Lib.run_compareString]
  simp only [Result.andThen]
  rw [Oper.upon_value]
  go_wp2
  go_ret
  exact ⟨rfl, rfl⟩
theorem Compare_any (a b : ByteArray) (w : World) : Calls Tryz.prog 35 #[.string a, .string b] w fun e w' => e = .returned (.int .i64 (cmpT a b)) ∧ w' = w := by
  go_enter Tryz.func35, Tryz.ntmps35
  go_wp2_with (go_at_call 55; refine (CompareString_any _ _ _).mono ?_; rintro e w' ⟨rfl, rfl⟩)
  go_ret
  exact ⟨rfl, rfl⟩

theorem cmpL_drop {α : Type} (f : α → α → Int) : ∀ (k : Nat) (a b : List α), k ≤ a.length → k ≤ b.length → (∀ j x y, j < k → a[j]? = some x → b[j]? = some y → f x y = 0) → cmpL f a b = cmpL f (a.drop k) (b.drop k)
  | 0, _, _, _, _, _ => rfl
  | k + 1, [], _, h, _, _ => by simp at h
  | k + 1, _ :: _, [], _, h, _ => by simp at h
  | k + 1, x :: a, y :: b, h1, h2, h => by
    have h0 := h 0 x y (by omega) rfl rfl
    simp only [cmpL, if_pos h0, List.drop_succ_cons]
    exact cmpL_drop f k a b (by simpa using h1) (by simpa using h2) fun j u v hj hu hv => h (j + 1) u v (by omega) (by simpa using hu) (by simpa using hv)

theorem cmpL_hit {α : Type} (f : α → α → Int) (k : Nat) (a b : List α) (x y : α) (hx : a[k]? = some x) (hy : b[k]? = some y) (h : ∀ j x y, j < k → a[j]? = some x → b[j]? = some y → f x y = 0) (h0 : ¬ f x y = 0) : cmpL f a b = f x y := by
  have ha := (List.getElem?_eq_some_iff.1 hx).1
  have hb := (List.getElem?_eq_some_iff.1 hy).1
  rw [cmpL_drop f k a b (by omega) (by omega) h]
  have e1 : a.drop k = x :: a.drop (k + 1) := by rw [List.drop_eq_getElem_cons ha]; congr 1; exact (List.getElem?_eq_some_iff.1 hx).2
  have e2 : b.drop k = y :: b.drop (k + 1) := by rw [List.drop_eq_getElem_cons hb]; congr 1; exact (List.getElem?_eq_some_iff.1 hy).2
  rw [e1, e2]
  simp only [cmpL, if_neg h0]
theorem cmpL_more {α : Type} (f : α → α → Int) (k : Nat) (a b : List α) (ha : k < a.length) (hb : k = b.length) (h : ∀ j x y, j < k → a[j]? = some x → b[j]? = some y → f x y = 0) : cmpL f a b = 1 := by
  rw [cmpL_drop f k a b (by omega) (by omega) h]
  have e1 : a.drop k = a[k] :: a.drop (k + 1) := List.drop_eq_getElem_cons ha
  have e2 : b.drop k = [] := List.drop_of_length_le (by omega)
  rw [e1, e2]
  rfl
theorem cmpL_end {α : Type} (f : α → α → Int) (k : Nat) (a b : List α) (ha : k = a.length) (hb : k ≤ b.length) (h : ∀ j x y, j < k → a[j]? = some x → b[j]? = some y → f x y = 0) : cmpL f a b = if a.length < b.length then -1 else 0 := by
  rw [cmpL_drop f k a b (by omega) (by omega) h]
  have e1 : a.drop k = [] := List.drop_of_length_le (by omega)
  rw [e1]
  by_cases hl : a.length < b.length
  · have e2 : b.drop k = b[k] :: b.drop (k + 1) := List.drop_eq_getElem_cons (by omega)
    rw [e2, if_pos hl]; rfl
  · have e2 : b.drop k = [] := List.drop_of_length_le (by omega)
    rw [e2, if_neg hl]; rfl

set_option maxHeartbeats 2000000 in
/-- slices.CompareFunc at values. -/
theorem CompareFuncV_any (g : Nat) (eg : ∀ args w, (callFunc g args).run Tryz.prog w = .ok (.enter g args) w) (c : V → V → Int) (n : Nat)
    (xs ys : List El) (sa sb : Value) (w : World) (ha : RowAt (fun _ => True) w 28 5 sa xs.length (encEs xs)) (hb : RowAt (fun _ => True) w 28 5 sb ys.length (encEs ys))
    (la : ∀ e ∈ xs, Lies n w e.v e.l e.f) (lb : ∀ e ∈ ys, Lies n w e.v e.l e.f)
    (hg : ∀ x ∈ xs, ∀ y ∈ ys, ∀ W, Below w.heap.size w W → Calls Tryz.prog g #[.agg #[.int .i64 x.v.kind, .int .i64 x.v.num, .string x.v.text, x.l, x.f], .agg #[.int .i64 y.v.kind, .int .i64 y.v.num, .string y.v.text, y.l, y.f]] W fun e w' => e = .returned (.int .i64 (c x.v y.v)) ∧ Below W.heap.size W w') :
    Calls Tryz.prog 36 #[sa, sb, .func (.func g) #[] #[]] w fun e w' => e = .returned (.int .i64 (cmpL c (xs.map El.v) (ys.map El.v))) ∧ Below w.heap.size w w' := by
  obtain ⟨aa, ca, rfl⟩ := ha.slice
  obtain ⟨ab, cb, rfl⟩ := hb.slice
  have na := ha.2.1
  have nb := hb.2.1
  go_enter Tryz.func36, Tryz.ntmps36
  go_wp2
  go_loopg [6, 7, 8, 9, 10, 13] xs.length (fun gg _ _ _ _ _ i wr => ∃ k : Nat, k ≤ xs.length ∧ k ≤ ys.length ∧ xs.length - k ≤ gg ∧ i = .int .i64 k ∧ Aside (Below w.heap.size w wr) ∧ Aside (∀ j x y, j < k → (xs.map El.v)[j]? = some x → (ys.map El.v)[j]? = some y → c x y = 0))
  case atStart => exact ⟨0, Nat.zero_le _, Nat.zero_le _, by omega, rfl, Below.refl _ w, fun j _ _ hj => absurd hj (Nat.not_lt_zero _)⟩
  case round =>
    obtain ⟨k, hk, hkb, hgg, rfl, BW, A⟩ := hrel
    by_cases hlt : k < xs.length
    · obtain ⟨b, c', e1, hbl, _, hc1, hc2, _⟩ := ha.cells (by omega)
      simp only [Value.slice.injEq, true_and] at e1
      obtain ⟨rfl, rfl⟩ := e1
      obtain ⟨⟨xv, xl, xf⟩, hx⟩ : ∃ x, xs[k]? = some x := ⟨_, List.getElem?_eq_getElem hlt⟩
      have hm : ∀ b, True → b < w.heap.size → True ∧ wr.heap[b]? = w.heap[b]? := fun b _ h => ⟨trivial, BW.out.block b h⟩
      obtain ⟨a0, a1, a2, a3, a4⟩ := (ha.move hm).el hx
      have hlx : Lies n wr xv xl xf := (la _ (List.mem_of_getElem? hx)).below BW.out
      have HX : Aside ((xs.map El.v)[k]? = some xv) := by show _ = _; rw [List.getElem?_map, hx]; rfl
      simp only at a0 a1 a2 a3 a4
      obtain ⟨al, cl, af, cf, rfl, rfl⟩ := hlx.slices
      by_cases hlt2 : k < ys.length
      · obtain ⟨b', c2, e2, hbl2, _, hc3, hc4, _⟩ := hb.cells (by omega)
        simp only [Value.slice.injEq, true_and] at e2
        obtain ⟨rfl, rfl⟩ := e2
        obtain ⟨⟨yv, yl, yf⟩, hy⟩ : ∃ y, ys[k]? = some y := ⟨_, List.getElem?_eq_getElem hlt2⟩
        obtain ⟨b0, b1, b2, b3, b4⟩ := (hb.move hm).el hy
        have hly : Lies n wr yv yl yf := (lb _ (List.mem_of_getElem? hy)).below BW.out
        have HY : Aside ((ys.map El.v)[k]? = some yv) := by show _ = _; rw [List.getElem?_map, hy]; rfl
        simp only at b0 b1 b2 b3 b4
        obtain ⟨bl, dl, bf, df, rfl, rfl⟩ := hly.slices
        have hcall := fun W (hW : Below wr.heap.size wr W) => hg _ (List.mem_of_getElem? hx) _ (List.mem_of_getElem? hy) W (BW.out.trans (hW.mono BW.out.size))
        simp only at hcall
        have hbw : b' < wr.heap.size := lt_of_cell b0
        clear hx hy hm hlx hly la lb hg ha hb
        by_cases h0 : c xv yv = 0
        · rw [h0] at hcall
          go_wp2_with fail
          refine (hcall _ (((Below.refl _ _).alloc (Nat.le_refl _) _).alloc (by simp) _)).mono ?_
          rintro e w' ⟨rfl, hb'⟩
          go_wp2
          go_roundg (xs.length - (k + 1))
          case measure => omega
          case rel =>
            refine ⟨k + 1, by omega, by omega, by omega, by go_num, ?_, (show Aside _ from fun j x y hj hx hy => ?_)⟩
            · exact BW.out.trans ((((Below.refl _ _).alloc (Nat.le_refl _) _).alloc (by simp) _).trans (hb'.mono (by simp; omega)) |>.mono BW.out.size)
            · by_cases e : j = k
              · subst e
                rw [HX.out] at hx
                rw [HY.out] at hy
                cases hx
                cases hy
                exact h0
              · exact A.out j x y (by omega) hx hy
        · have h0' : (c xv yv != 0) = true := by simpa using h0
          go_wp2_with fail
          refine (hcall _ (((Below.refl _ _).alloc (Nat.le_refl _) _).alloc (by simp) _)).mono ?_
          rintro e w' ⟨rfl, hb'⟩
          go_wp2
          go_ret
          refine ⟨?_, BW.out.trans ((((Below.refl _ _).alloc (Nat.le_refl _) _).alloc (by simp) _).trans (hb'.mono (by simp; omega)) |>.mono BW.out.size)⟩
          rw [cmpL_hit c k _ _ xv yv HX.out HY.out A.out h0]
          rfl
      · have hz : ¬ (k : Int) < (ys.length : Int) := by omega
        clear hg la lb hb hlx hx hm
        go_wp2
        go_ret
        refine ⟨?_, BW.out.trans ((((Below.refl _ _).alloc (Nat.le_refl _) _)).mono BW.out.size)⟩
        rw [cmpL_more c k _ _ (by simpa using hlt) (by simp; omega) A.out]
        rfl
    · have hz : ¬ (k : Int) < (xs.length : Int) := by omega
      have he := cmpL_end c k (xs.map El.v) (ys.map El.v) (by simp; omega) (by simp; omega) A.out
      simp only [List.length_map] at he
      have HE := (show Aside _ from he)
      clear hg la lb ha hb he
      by_cases hl : xs.length < ys.length
      · have hl' : (xs.length : Int) < (ys.length : Int) := by omega
        go_wp2
        go_ret
        refine ⟨?_, BW.out⟩
        rw [HE.out, if_pos hl]
        rfl
      · have hl' : ¬ (xs.length : Int) < (ys.length : Int) := by omega
        go_wp2
        go_ret
        refine ⟨?_, BW.out⟩
        rw [HE.out, if_neg hl]
        rfl
end Go.Proofs.YtgcccihnlecpnaaGreatDoor

namespace Go.Proofs.YtgcccihnlecpnaaGreatDoor
open Go.RowKit

set_option maxHeartbeats 2000000 in
/-- slices.CompareFunc at fields. -/
theorem CompareFuncF_any (g : Nat) (eg : ∀ args w, (callFunc g args).run Tryz.prog w = .ok (.enter g args) w) (c : ByteArray × V → ByteArray × V → Int) (n : Nat)
    (xs ys : List Fl) (sa sb : Value) (w : World) (ha : RowAt (fun _ => True) w 44 6 sa xs.length (encFs xs)) (hb : RowAt (fun _ => True) w 44 6 sb ys.length (encFs ys))
    (la : ∀ e ∈ xs, Lies n w e.v e.l e.f) (lb : ∀ e ∈ ys, Lies n w e.v e.l e.f)
    (hg : ∀ x ∈ xs, ∀ y ∈ ys, ∀ W, Below w.heap.size w W → Calls Tryz.prog g #[.agg #[.string x.name, .int .i64 x.v.kind, .int .i64 x.v.num, .string x.v.text, x.l, x.f], .agg #[.string y.name, .int .i64 y.v.kind, .int .i64 y.v.num, .string y.v.text, y.l, y.f]] W fun e w' => e = .returned (.int .i64 (c x.pair y.pair)) ∧ Below W.heap.size W w') :
    Calls Tryz.prog 37 #[sa, sb, .func (.func g) #[] #[]] w fun e w' => e = .returned (.int .i64 (cmpL c (xs.map Fl.pair) (ys.map Fl.pair))) ∧ Below w.heap.size w w' := by
  obtain ⟨aa, ca, rfl⟩ := ha.slice
  obtain ⟨ab, cb, rfl⟩ := hb.slice
  have na := ha.2.1
  have nb := hb.2.1
  go_enter Tryz.func37, Tryz.ntmps37
  go_wp2
  go_loopg [6, 7, 8, 9, 10, 13] xs.length (fun gg _ _ _ _ _ i wr => ∃ k : Nat, k ≤ xs.length ∧ k ≤ ys.length ∧ xs.length - k ≤ gg ∧ i = .int .i64 k ∧ Aside (Below w.heap.size w wr) ∧ Aside (∀ j x y, j < k → (xs.map Fl.pair)[j]? = some x → (ys.map Fl.pair)[j]? = some y → c x y = 0))
  case atStart => exact ⟨0, Nat.zero_le _, Nat.zero_le _, by omega, rfl, Below.refl _ w, fun j _ _ hj => absurd hj (Nat.not_lt_zero _)⟩
  case round =>
    obtain ⟨k, hk, hkb, hgg, rfl, BW, A⟩ := hrel
    by_cases hlt : k < xs.length
    · obtain ⟨b, c', e1, hbl, _, hc1, hc2, _⟩ := ha.cells (by omega)
      simp only [Value.slice.injEq, true_and] at e1
      obtain ⟨rfl, rfl⟩ := e1
      obtain ⟨⟨xn, xv, xl, xf⟩, hx⟩ : ∃ x, xs[k]? = some x := ⟨_, List.getElem?_eq_getElem hlt⟩
      have hm : ∀ b, True → b < w.heap.size → True ∧ wr.heap[b]? = w.heap[b]? := fun b _ h => ⟨trivial, BW.out.block b h⟩
      obtain ⟨a0, a1, a2, a3, a4, a5⟩ := (ha.move hm).fl hx
      have hlx : Lies n wr xv xl xf := (la _ (List.mem_of_getElem? hx)).below BW.out
      have HX : Aside ((xs.map Fl.pair)[k]? = some (xn, xv)) := by show _ = _; rw [List.getElem?_map, hx]; rfl
      simp only at a0 a1 a2 a3 a4 a5
      obtain ⟨al, cl, af, cf, rfl, rfl⟩ := hlx.slices
      by_cases hlt2 : k < ys.length
      · obtain ⟨b', c2, e2, hbl2, _, hc3, hc4, _⟩ := hb.cells (by omega)
        simp only [Value.slice.injEq, true_and] at e2
        obtain ⟨rfl, rfl⟩ := e2
        obtain ⟨⟨yn, yv, yl, yf⟩, hy⟩ : ∃ y, ys[k]? = some y := ⟨_, List.getElem?_eq_getElem hlt2⟩
        obtain ⟨b0, b1, b2, b3, b4, b5⟩ := (hb.move hm).fl hy
        have hly : Lies n wr yv yl yf := (lb _ (List.mem_of_getElem? hy)).below BW.out
        have HY : Aside ((ys.map Fl.pair)[k]? = some (yn, yv)) := by show _ = _; rw [List.getElem?_map, hy]; rfl
        simp only at b0 b1 b2 b3 b4 b5
        obtain ⟨bl, dl, bf, df, rfl, rfl⟩ := hly.slices
        have hcall := fun W (hW : Below wr.heap.size wr W) => hg _ (List.mem_of_getElem? hx) _ (List.mem_of_getElem? hy) W (BW.out.trans (hW.mono BW.out.size))
        simp only [Fl.pair] at hcall
        have hbw : b' < wr.heap.size := lt_of_cell b0
        clear hx hy hm hlx hly la lb hg ha hb
        by_cases h0 : c (xn, xv) (yn, yv) = 0
        · rw [h0] at hcall
          go_wp2_with fail
          refine (hcall _ (((Below.refl _ _).alloc (Nat.le_refl _) _).alloc (by simp) _)).mono ?_
          rintro e w' ⟨rfl, hb'⟩
          go_wp2
          go_roundg (xs.length - (k + 1))
          case measure => omega
          case rel =>
            refine ⟨k + 1, by omega, by omega, by omega, by go_num, ?_, (show Aside _ from fun j x y hj hx hy => ?_)⟩
            · exact BW.out.trans ((((Below.refl _ _).alloc (Nat.le_refl _) _).alloc (by simp) _).trans (hb'.mono (by simp; omega)) |>.mono BW.out.size)
            · by_cases e : j = k
              · subst e
                rw [HX.out] at hx
                rw [HY.out] at hy
                cases hx
                cases hy
                exact h0
              · exact A.out j x y (by omega) hx hy
        · have h0' : (c (xn, xv) (yn, yv) != 0) = true := by simpa using h0
          go_wp2_with fail
          refine (hcall _ (((Below.refl _ _).alloc (Nat.le_refl _) _).alloc (by simp) _)).mono ?_
          rintro e w' ⟨rfl, hb'⟩
          go_wp2
          go_ret
          refine ⟨?_, BW.out.trans ((((Below.refl _ _).alloc (Nat.le_refl _) _).alloc (by simp) _).trans (hb'.mono (by simp; omega)) |>.mono BW.out.size)⟩
          rw [cmpL_hit c k _ _ (xn, xv) (yn, yv) HX.out HY.out A.out h0]
          rfl
      · have hz : ¬ (k : Int) < (ys.length : Int) := by omega
        clear hg la lb hb hlx hx hm
        go_wp2
        go_ret
        refine ⟨?_, BW.out.trans ((((Below.refl _ _).alloc (Nat.le_refl _) _)).mono BW.out.size)⟩
        rw [cmpL_more c k _ _ (by simpa using hlt) (by simp; omega) A.out]
        rfl
    · have hz : ¬ (k : Int) < (xs.length : Int) := by omega
      have he := cmpL_end c k (xs.map Fl.pair) (ys.map Fl.pair) (by simp; omega) (by simp; omega) A.out
      simp only [List.length_map] at he
      have HE := (show Aside _ from he)
      clear hg la lb ha hb he
      by_cases hl : xs.length < ys.length
      · have hl' : (xs.length : Int) < (ys.length : Int) := by omega
        go_wp2
        go_ret
        refine ⟨?_, BW.out⟩
        rw [HE.out, if_pos hl]
        rfl
      · have hl' : ¬ (xs.length : Int) < (ys.length : Int) := by omega
        go_wp2
        go_ret
        refine ⟨?_, BW.out⟩
        rw [HE.out, if_neg hl]
        rfl
end Go.Proofs.YtgcccihnlecpnaaGreatDoor

namespace Go.Proofs.YtgcccihnlecpnaaGreatDoor
open Go.RowKit

theorem cmpField_any (p q : ByteArray) (a b : V) (la fa lb fb : Value) (c : Int) (w : World) (hsa : ∃ a1 n1 c1 a2 n2 c2, la = .slice a1 n1 c1 ∧ fa = .slice a2 n2 c2) (hsb : ∃ a1 n1 c1 a2 n2 c2, lb = .slice a1 n1 c1 ∧ fb = .slice a2 n2 c2)
    (hc : ∀ W, Below w.heap.size w W → Calls Tryz.prog 21 #[.agg #[.int .i64 a.kind, .int .i64 a.num, .string a.text, la, fa], .agg #[.int .i64 b.kind, .int .i64 b.num, .string b.text, lb, fb]] W fun e w' => e = .returned (.int .i64 c) ∧ Below W.heap.size W w') :
    Calls Tryz.prog 38 #[.agg #[.string p, .int .i64 a.kind, .int .i64 a.num, .string a.text, la, fa], .agg #[.string q, .int .i64 b.kind, .int .i64 b.num, .string b.text, lb, fb]] w
      fun e w' => e = .returned (.int .i64 (if cmpT p q = 0 then c else cmpT p q)) ∧ Below w.heap.size w w' := by
  obtain ⟨a1, n1, c1, a2, n2, c2, rfl, rfl⟩ := hsa
  obtain ⟨a3, n3, c3, a4, n4, c4, rfl, rfl⟩ := hsb
  by_cases h : cmpT p q = 0
  · obtain rfl := cmpT_eq h
    rw [if_pos h]
    clear h
    go_enter Tryz.func38, Tryz.ntmps38
    go_wp2_with fail
    refine (hc _ (((Below.refl _ _).alloc (Nat.le_refl _) _).alloc (by simp) _)).mono ?_
    rintro e w' ⟨rfl, hb⟩
    go_wp2
    go_ret
    exact ⟨rfl, (((Below.refl _ _).alloc (Nat.le_refl _) _).alloc (by simp) _).trans (hb.mono (by simp; omega))⟩
  · rw [if_neg h]
    have hne : (p.toList == q.toList) = false := by
      apply beq_false_of_ne
      intro e
      apply h
      unfold cmpT
      rw [e]
      exact good_cmpT.refl q
    clear h hc
    go_enter Tryz.func38, Tryz.ntmps38
    go_wp2_with fail
    refine (Compare_any _ _ _).mono ?_
    rintro e w' ⟨rfl, rfl⟩
    go_wp2
    go_ret
    exact ⟨rfl, (((Below.refl _ _).alloc (Nat.le_refl _) _).alloc (by simp) _)⟩

/-- one level of the order. -/
def cmpStep (c : V → V → Int) (a b : V) : Int :=
  if a.kind = b.kind then
    (if a.kind = 1 ∨ a.kind = 2 then cmpI a.num b.num
     else if a.kind = 3 then cmpT a.text b.text
     else if a.kind = 4 then cmpL c a.list b.list
     else if a.kind = 5 then cmpL (cmpF c) a.fields b.fields
     else 0)
  else cmpI a.kind b.kind
theorem cmpV_step (n : Nat) (a b : V) : cmpV (n + 1) a b = cmpStep (cmpV n) a b := rfl

theorem Rep.shape {ok : Nat → Prop} {W : World} {n : Nat} {v : V} {l f : Value} (h : Rep ok n W v l f) : ∃ a1 n1 c1 a2 n2 c2, l = .slice a1 n1 c1 ∧ f = .slice a2 n2 c2 := by
  obtain ⟨a, b, c, d, e1, e2⟩ := h.slices
  exact ⟨a, _, b, c, _, d, e1, e2⟩
theorem enters21 (args : Array Value) (w : World) : (callFunc 21 args).run Tryz.prog w = .ok (.enter 21 args) w := enters_of Tryz.func21 (by kernel_rfl) rfl args w
theorem enters38 (args : Array Value) (w : World) : (callFunc 38 args).run Tryz.prog w = .ok (.enter 38 args) w := enters_of Tryz.func38 (by kernel_rfl) rfl args w

set_option maxHeartbeats 1000000 in
theorem VCmp_step (n : Nat) (c : V → V → Int) (a b : V) (la fa lb fb : Value) (w : World) (xs ys : List El) (fs gs : List Fl)
    (ea : xs.map El.v = a.list) (eb : ys.map El.v = b.list) (efa : fs.map Fl.pair = a.fields) (efb : gs.map Fl.pair = b.fields)
    (hxs : RowAt (fun _ => True) w 28 5 la xs.length (encEs xs)) (hys : RowAt (fun _ => True) w 28 5 lb ys.length (encEs ys))
    (hfs : RowAt (fun _ => True) w 44 6 fa fs.length (encFs fs)) (hgs : RowAt (fun _ => True) w 44 6 fb gs.length (encFs gs))
    (lx : ∀ e ∈ xs, Lies n w e.v e.l e.f) (ly : ∀ e ∈ ys, Lies n w e.v e.l e.f) (lf : ∀ e ∈ fs, Lies n w e.v e.l e.f) (lg : ∀ e ∈ gs, Lies n w e.v e.l e.f)
    (hg : ∀ x ∈ xs, ∀ y ∈ ys, ∀ W, Below w.heap.size w W → Calls Tryz.prog 21 #[.agg #[.int .i64 x.v.kind, .int .i64 x.v.num, .string x.v.text, x.l, x.f], .agg #[.int .i64 y.v.kind, .int .i64 y.v.num, .string y.v.text, y.l, y.f]] W fun e w' => e = .returned (.int .i64 (c x.v y.v)) ∧ Below W.heap.size W w')
    (hf : ∀ x ∈ fs, ∀ y ∈ gs, ∀ W, Below w.heap.size w W → Calls Tryz.prog 21 #[.agg #[.int .i64 x.v.kind, .int .i64 x.v.num, .string x.v.text, x.l, x.f], .agg #[.int .i64 y.v.kind, .int .i64 y.v.num, .string y.v.text, y.l, y.f]] W fun e w' => e = .returned (.int .i64 (c x.v y.v)) ∧ Below W.heap.size W w') :
    Calls Tryz.prog 21 #[.agg #[.int .i64 a.kind, .int .i64 a.num, .string a.text, la, fa], .agg #[.int .i64 b.kind, .int .i64 b.num, .string b.text, lb, fb]] w
      fun e w' => e = .returned (.int .i64 (cmpStep c a b)) ∧ Below w.heap.size w w' := by
  have hB : ∀ (o1 o2 : Obj), Below w.heap.size w ((w.alloc o1).alloc o2) := fun o1 o2 => ((Below.refl _ _).alloc (Nat.le_refl _) _).alloc (by simp) _
  have hL : ∀ W, Below w.heap.size w W → Calls Tryz.prog 36 #[la, lb, .func (.func 21) #[] #[]] W fun e w' => e = .returned (.int .i64 (cmpL c a.list b.list)) ∧ Below W.heap.size W w' := by
    intro W hW
    rw [← ea, ← eb]
    have hm : ∀ b, True → b < w.heap.size → True ∧ W.heap[b]? = w.heap[b]? := fun b _ h => ⟨trivial, hW.block b h⟩
    exact CompareFuncV_any 21 enters21 c n xs ys la lb W (hxs.move hm) (hys.move hm) (fun e he => (lx e he).below hW) (fun e he => (ly e he).below hW) fun x hx y hy W' hW' => hg x hx y hy W' (hW.trans (hW'.mono hW.size))
  have hF : ∀ W, Below w.heap.size w W → Calls Tryz.prog 37 #[fa, fb, .func (.func 38) #[] #[]] W fun e w' => e = .returned (.int .i64 (cmpL (cmpF c) a.fields b.fields)) ∧ Below W.heap.size W w' := by
    intro W hW
    rw [← efa, ← efb]
    have hm : ∀ b, True → b < w.heap.size → True ∧ W.heap[b]? = w.heap[b]? := fun b _ h => ⟨trivial, hW.block b h⟩
    exact CompareFuncF_any 38 enters38 (cmpF c) n fs gs fa fb W (hfs.move hm) (hgs.move hm) (fun e he => (lf e he).below hW) (fun e he => (lg e he).below hW) fun x hx y hy W' hW' =>
      cmpField_any x.name y.name x.v y.v x.l x.f y.l y.f (c x.v y.v) W' (lf x hx).shape (lg y hy).shape fun W2 hW2 => hf x hx y hy W2 ((hW.trans (hW'.mono hW.size)).trans (hW2.mono (Nat.le_trans hW.size hW'.size)))
  obtain ⟨a1, c1, rfl⟩ := hxs.slice
  obtain ⟨a2, c2, rfl⟩ := hys.slice
  obtain ⟨a3, c3, rfl⟩ := hfs.slice
  obtain ⟨a4, c4, rfl⟩ := hgs.slice
  clear hxs hys hfs hgs lx ly lf lg hg hf ea eb efa efb
  unfold cmpStep
  by_cases hk : a.kind = b.kind
  · rw [if_pos hk]
    generalize b.kind = kb at *
    subst hk
    by_cases h1 : a.kind = 1
    · rw [if_pos (.inl h1), h1]
      clear hL hF h1
      go_enter Tryz.func21, Tryz.ntmps21
      go_wp2_with (go_at_call 34; refine (cmpN_any _ _ _).mono ?_; rintro e w' ⟨rfl, rfl⟩)
      go_ret
      exact ⟨rfl, hB _ _⟩
    by_cases h2 : a.kind = 2
    · rw [if_pos (.inr h2), h2]
      clear hL hF h1 h2
      go_enter Tryz.func21, Tryz.ntmps21
      go_wp2_with (go_at_call 34; refine (cmpN_any _ _ _).mono ?_; rintro e w' ⟨rfl, rfl⟩)
      go_ret
      exact ⟨rfl, hB _ _⟩
    rw [if_neg (by omega)]
    by_cases h3 : a.kind = 3
    · rw [if_pos h3, h3]
      clear hL hF h1 h2 h3
      go_enter Tryz.func21, Tryz.ntmps21
      go_wp2_with (go_at_call 35; refine (Compare_any _ _ _).mono ?_; rintro e w' ⟨rfl, rfl⟩)
      go_ret
      exact ⟨rfl, hB _ _⟩
    rw [if_neg h3]
    by_cases h4 : a.kind = 4
    · rw [if_pos h4, h4]
      clear hF h1 h2 h3 h4
      go_enter Tryz.func21, Tryz.ntmps21
      go_wp2_with fail
      refine (hL _ (hB _ _)).mono ?_
      rintro e w' ⟨rfl, hb⟩
      go_wp2
      go_ret
      exact ⟨rfl, (hB _ _).trans (hb.mono (hB _ _).size)⟩
    rw [if_neg h4]
    by_cases h5 : a.kind = 5
    · rw [if_pos h5, h5]
      clear hL h1 h2 h3 h4 h5
      go_enter Tryz.func21, Tryz.ntmps21
      go_wp2_with fail
      refine (hF _ (hB _ _)).mono ?_
      rintro e w' ⟨rfl, hb⟩
      go_wp2
      go_ret
      exact ⟨rfl, (hB _ _).trans (hb.mono (hB _ _).size)⟩
    rw [if_neg h5]
    clear hL hF
    have e1 : (a.kind == 1) = false := by simpa using h1
    have e2 : (a.kind == 2) = false := by simpa using h2
    have e3 : (a.kind == 3) = false := by simpa using h3
    have e4 : (a.kind == 4) = false := by simpa using h4
    have e5 : (a.kind == 5) = false := by simpa using h5
    go_enter Tryz.func21, Tryz.ntmps21
    go_wp2
    go_ret
    exact ⟨rfl, hB _ _⟩
  · rw [if_neg hk]
    have hne : (a.kind != b.kind) = true := by simpa using hk
    clear hL hF
    go_enter Tryz.func21, Tryz.ntmps21
    go_wp2_with (go_at_call 33; refine (cmpK_any _ _ _).mono ?_; rintro e w' ⟨rfl, rfl⟩)
    go_ret
    exact ⟨rfl, hB _ _⟩

theorem VCmp_any : ∀ (n : Nat) (a b : V) (la fa lb fb : Value) (w : World), Lies n w a la fa → Lies n w b lb fb →
    Calls Tryz.prog 21 #[.agg #[.int .i64 a.kind, .int .i64 a.num, .string a.text, la, fa], .agg #[.int .i64 b.kind, .int .i64 b.num, .string b.text, lb, fb]] w
      fun e w' => e = .returned (.int .i64 (cmpV (n + 1) a b)) ∧ Below w.heap.size w w'
  | 0, a, b, la, fa, lb, fb, w, ⟨h1, h2, h3, h4⟩, ⟨k1, k2, k3, k4⟩ => by
    subst h3 h4 k3 k4
    exact VCmp_step 0 (cmpV 0) a b _ _ _ _ w [] [] [] [] h1.symm k1.symm h2.symm k2.symm RowAt.nil RowAt.nil RowAt.nil RowAt.nil (fun e he => by cases he) (fun e he => by cases he) (fun e he => by cases he) (fun e he => by cases he) (fun x hx => by cases hx) (fun x hx => by cases hx)
  | n + 1, a, b, la, fa, lb, fb, w, ⟨⟨xs, e1, e2, e3⟩, ⟨fs, f1, f2, f3⟩⟩, ⟨⟨ys, k1, k2, k3⟩, ⟨gs, g1, g2, g3⟩⟩ =>
    VCmp_step n (cmpV (n + 1)) a b la fa lb fb w xs ys fs gs e1 k1 f1 g1 e2 k2 f2 g2 e3 k3 f3 g3
      (fun x hx y hy W hW => VCmp_any n x.v y.v x.l x.f y.l y.f W (Lies.below hW (e3 x hx)) (Lies.below hW (k3 y hy)))
      (fun x hx y hy W hW => VCmp_any n x.v y.v x.l x.f y.l y.f W (Lies.below hW (f3 x hx)) (Lies.below hW (g3 y hy)))

theorem Same_any (n : Nat) (a b : V) (la fa lb fb : Value) (w : World) (ha : Lies n w a la fa) (hb : Lies n w b lb fb) :
    Calls Tryz.prog 12 #[.agg #[.int .i64 a.kind, .int .i64 a.num, .string a.text, la, fa], .agg #[.int .i64 b.kind, .int .i64 b.num, .string b.text, lb, fb]] w
      fun e w' => e = .returned (.bool (cmpV (n + 1) a b == 0)) ∧ Below w.heap.size w w' := by
  have hB : ∀ (o1 o2 : Obj), Below w.heap.size w ((w.alloc o1).alloc o2) := fun o1 o2 => ((Below.refl _ _).alloc (Nat.le_refl _) _).alloc (by simp) _
  have hc := fun W (hW : Below w.heap.size w W) => VCmp_any n a b la fa lb fb W (ha.below hW) (hb.below hW)
  obtain ⟨a1, n1, c1, a2, n2, c2, rfl, rfl⟩ := ha.shape
  obtain ⟨a3, n3, c3, a4, n4, c4, rfl, rfl⟩ := hb.shape
  clear ha hb
  generalize cmpV (n + 1) a b = r at *
  go_enter Tryz.func12, Tryz.ntmps12
  go_wp2_with fail
  refine (hc _ (hB _ _)).mono ?_
  rintro e w' ⟨rfl, hb⟩
  go_wp2
  go_ret
  exact ⟨rfl, (hB _ _).trans (hb.mono (hB _ _).size)⟩
end Go.Proofs.YtgcccihnlecpnaaGreatDoor
