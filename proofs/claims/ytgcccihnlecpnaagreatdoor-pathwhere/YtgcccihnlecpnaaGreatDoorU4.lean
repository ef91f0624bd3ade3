/-
  slices.IndexFunc at fields, package value's place and above by their contracts. No conditions beyond those stated.
  slices.Delete at fields by its contract. No conditions beyond those stated.
  The law's maker of values: what it makes, its tables, its numbers. No conditions beyond those stated.
  Values that the law makes: names rise all through; the few words of a way, and their places. No conditions beyond those stated.
-/
import Derived.Test.YtgcccihnlecpnaaGreatDoorU3
import Derived.Deep.RegionLaw
import Derived.Lib.AppendZeros
import Derived.Test.YtgcccihnlecpnaaGreatDoorU1
namespace Go.Proofs.YtgcccihnlecpnaaGreatDoor
open Go.RowKit

/-- where the first one is that is asked for; -1: nowhere. -/
def whereI {α : Type} (p : α → Bool) : List α → Int
  | [] => -1
  | x :: xs => if p x then 0 else if whereI p xs < 0 then -1 else 1 + whereI p xs
theorem whereI_hit {α : Type} (p : α → Bool) : ∀ (k : Nat) (l : List α) (x : α), l[k]? = some x → p x = true → (∀ j y, j < k → l[j]? = some y → p y = false) → whereI p l = k
  | 0, [], _, h, _, _ => by simp at h
  | 0, y :: l, x, h, hp, _ => by simp at h; subst h; simp [whereI, hp]
  | k + 1, [], _, h, _, _ => by simp at h
  | k + 1, y :: l, x, h, hp, hn => by
    have h0 := hn 0 y (by omega) rfl
    have ih := whereI_hit p k l x (by simpa using h) hp fun j z hj hz => hn (j + 1) z (by omega) (by simpa using hz)
    simp only [whereI, h0, ih]
    rw [if_neg (by simp), if_neg (by omega)]
    omega
theorem whereI_miss {α : Type} (p : α → Bool) : ∀ (l : List α), (∀ y ∈ l, p y = false) → whereI p l = -1
  | [], _ => rfl
  | y :: l, h => by
    simp [whereI, h y (by simp), whereI_miss p l fun z hz => h z (by simp [hz])]
theorem whereI_range {α : Type} (p : α → Bool) : ∀ (l : List α), whereI p l = -1 ∨ (0 ≤ whereI p l ∧ whereI p l < l.length)
  | [] => .inl rfl
  | y :: l => by
    have ih := whereI_range p l
    simp only [whereI]
    split
    · right; simp
    · split
      · exact .inl rfl
      · right; simp; omega

set_option maxHeartbeats 2000000 in
theorem IndexFunc_any (g : Nat) (cv : Value) (eg : ∀ args w, (callFunc g args).run Tryz.prog w = .ok (.enter g args) w) (p : ByteArray × V → Bool) (n : Nat) (xs : List Fl) (sa : Value) (w : World)
    (ha : RowAt (fun _ => True) w 44 6 sa xs.length (encFs xs)) (la : ∀ e ∈ xs, Lies n w e.v e.l e.f)
    (hg : ∀ x ∈ xs, ∀ W, Below w.heap.size w W → Calls Tryz.prog g #[.agg #[.string x.name, .int .i64 x.v.kind, .int .i64 x.v.num, .string x.v.text, x.l, x.f], cv] W fun e w' => e = .returned (.bool (p x.pair)) ∧ Below W.heap.size W w') :
    Calls Tryz.prog 50 #[sa, .func (.func g) #[] #[cv]] w fun e w' => e = .returned (.int .i64 (whereI p (xs.map Fl.pair))) ∧ Below w.heap.size w w' := by
  obtain ⟨aa, ca, rfl⟩ := ha.slice
  have na := ha.2.1
  go_enter Tryz.func50, Tryz.ntmps50
  go_wp2
  go_loopg [4, 5, 8] xs.length (fun gg _ _ i wr => ∃ k : Nat, k ≤ xs.length ∧ xs.length - k ≤ gg ∧ i = .int .i64 k ∧ Aside (Below w.heap.size w wr) ∧ Aside (∀ j x, j < k → (xs.map Fl.pair)[j]? = some x → p x = false))
  case atStart => exact ⟨0, Nat.zero_le _, by omega, rfl, Below.refl _ w, fun j _ hj => absurd hj (Nat.not_lt_zero _)⟩
  case round =>
    obtain ⟨k, hk, hgg, rfl, BW, A⟩ := hrel
    by_cases hlt : k < xs.length
    · obtain ⟨b, c', e1, hbl, _, hc1, hc2, _⟩ := ha.cells (by omega)
      simp only [Value.slice.injEq, true_and] at e1
      obtain ⟨rfl, rfl⟩ := e1
      obtain ⟨⟨xn, xv, xl, xf⟩, hx⟩ : ∃ x, xs[k]? = some x := ⟨_, List.getElem?_eq_getElem hlt⟩
      have hm : ∀ b, True → b < w.heap.size → True ∧ wr.heap[b]? = w.heap[b]? := fun b _ h => ⟨trivial, BW.out.block b h⟩
      obtain ⟨a0, a1, a2, a3, a4, a5⟩ := (ha.move hm).fl hx
      have hlx : Lies n wr xv xl xf := (la _ (List.mem_of_getElem? hx)).below BW.out
      have HX : Aside ((xs.map Fl.pair)[k]? = some (xn, xv)) := by show _ = _; rw [List.getElem?_map, hx]; rfl
      simp only at a0 a1 a2 a3 a4 a5
      obtain ⟨al, cl, af, cf, rfl, rfl⟩ := hlx.slices
      have hcall := hg _ (List.mem_of_getElem? hx) wr BW.out
      simp only [Fl.pair] at hcall
      have zk : (k : Int) < (xs.length : Int) := by omega
      clear hx hm hlx la hg ha
      by_cases h0 : p (xn, xv) = true
      · rw [h0] at hcall
        go_wp2_with fail
        refine hcall.mono ?_
        rintro e w' ⟨rfl, hb'⟩
        go_wp2
        go_ret
        refine ⟨?_, BW.out.trans (hb'.mono BW.out.size)⟩
        rw [whereI_hit p k _ _ HX.out h0 A.out]
        rfl
      · have h1 : p (xn, xv) = false := by simpa using h0
        rw [h1] at hcall
        go_wp2_with fail
        refine hcall.mono ?_
        rintro e w' ⟨rfl, hb'⟩
        go_wp2
        go_roundg (xs.length - (k + 1))
        case measure => omega
        case rel =>
          refine ⟨k + 1, by omega, by omega, by go_num, BW.out.trans (hb'.mono BW.out.size), (show Aside _ from fun j x hj hx => ?_)⟩
          by_cases e : j = k
          · subst e
            rw [HX.out] at hx
            cases hx
            exact h1
          · exact A.out j x (by omega) hx
    · have hz : ¬ (k : Int) < (xs.length : Int) := by omega
      clear hg la ha
      go_wp2
      go_ret
      refine ⟨?_, BW.out⟩
      rw [whereI_miss p]
      · rfl
      · intro y hy
        obtain ⟨j, hj⟩ := List.getElem?_of_mem hy
        have := (List.getElem?_eq_some_iff.1 hj).1
        exact A.out j y (by simp at this; omega) hj

theorem beq_cmpT (a b : ByteArray) : (a.toList == b.toList) = decide (cmpT a b = 0) := by
  by_cases h : cmpT a b = 0
  · rw [cmpT_eq h]; simp [good_cmpT.refl]
  · have hne : ¬ a.toList = b.toList := fun e => h (by unfold cmpT; rw [e]; exact good_cmpT.refl b)
    rw [decide_eq_false h]; exact beq_false_of_ne hne
theorem gtr_cmpT (a b : ByteArray) : (!Op.bytesLess a.toList b.toList && !(a.toList == b.toList)) = decide (0 < cmpT a b) := by
  rw [bytesLess_eq, beq_cmpT]
  have : cmpB a.toList b.toList = cmpT a b := rfl
  rw [this]
  by_cases h1 : cmpT a b < 0
  · rw [decide_eq_true h1, decide_eq_false (show ¬ 0 < cmpT a b by omega)]; rfl
  · rw [decide_eq_false h1]
    by_cases h2 : cmpT a b = 0
    · rw [decide_eq_true h2, decide_eq_false (show ¬ 0 < cmpT a b by omega)]; rfl
    · rw [decide_eq_false h2, decide_eq_true (show 0 < cmpT a b by omega)]; rfl

def isName (name : ByteArray) (q : ByteArray × V) : Bool := decide (cmpT q.1 name = 0)
def isAbove (name : ByteArray) (q : ByteArray × V) : Bool := decide (0 < cmpT q.1 name)

theorem place1_any (q name : ByteArray) (v : V) (l f : Value) (b o : Nat) (w : World) (hs : ∃ a1 n1 c1 a2 n2 c2, l = .slice a1 n1 c1 ∧ f = .slice a2 n2 c2) (ha : w.cell? ⟨b, o, none⟩ = some (.string name)) :
    Calls Tryz.prog 62 #[.agg #[.string q, .int .i64 v.kind, .int .i64 v.num, .string v.text, l, f], .pointer (some ⟨b, o, none⟩)] w fun e w' => e = .returned (.bool (isName name (q, v))) ∧ Below w.heap.size w w' := by
  obtain ⟨a1, n1, c1, a2, n2, c2, rfl, rfl⟩ := hs
  have hb := lt_of_cell ha
  unfold isName
  rw [← beq_cmpT]
  go_enter Tryz.func62, Tryz.ntmps62
  go_wp2
  go_ret
  exact ⟨rfl, (Below.refl _ _).alloc (Nat.le_refl _) _⟩
theorem above1_any (q name : ByteArray) (v : V) (l f : Value) (b o : Nat) (w : World) (hs : ∃ a1 n1 c1 a2 n2 c2, l = .slice a1 n1 c1 ∧ f = .slice a2 n2 c2) (ha : w.cell? ⟨b, o, none⟩ = some (.string name)) :
    Calls Tryz.prog 72 #[.agg #[.string q, .int .i64 v.kind, .int .i64 v.num, .string v.text, l, f], .pointer (some ⟨b, o, none⟩)] w fun e w' => e = .returned (.bool (isAbove name (q, v))) ∧ Below w.heap.size w w' := by
  obtain ⟨a1, n1, c1, a2, n2, c2, rfl, rfl⟩ := hs
  have hb := lt_of_cell ha
  unfold isAbove
  rw [← gtr_cmpT]
  go_enter Tryz.func72, Tryz.ntmps72
  go_wp2
  go_ret
  exact ⟨rfl, (Below.refl _ _).alloc (Nat.le_refl _) _⟩
theorem entersPlace1 (args : Array Value) (w : World) : (callFunc 62 args).run Tryz.prog w = .ok (.enter 62 args) w := enters_of Tryz.func62 (by kernel_rfl) rfl args w
theorem entersAbove1 (args : Array Value) (w : World) : (callFunc 72 args).run Tryz.prog w = .ok (.enter 72 args) w := enters_of Tryz.func72 (by kernel_rfl) rfl args w

theorem place_any (n : Nat) (v : V) (l f : Value) (name : ByteArray) (w : World) (h : Lies (n + 1) w v l f) :
    Calls Tryz.prog 45 #[.agg #[.int .i64 v.kind, .int .i64 v.num, .string v.text, l, f], .string name] w fun e w' => e = .returned (.int .i64 (if v.kind = 5 then whereI (isName name) v.fields else -1)) ∧ Below w.heap.size w w' := by
  have hB : ∀ (o1 o2 : Obj), Below w.heap.size w ((w.alloc o1).alloc o2) := fun o1 o2 => ((Below.refl _ _).alloc (Nat.le_refl _) _).alloc (by simp) _
  have h' := h
  obtain ⟨-, ⟨fs, f1, f2, f3⟩⟩ := h'
  have hF : ∀ o1, Calls Tryz.prog 50 #[f, .func (.func 62) #[] #[.pointer (some ⟨w.heap.size + 1, 0, none⟩)]] ((w.alloc o1).alloc (.cells #[.string name] 9)) fun e w' => e = .returned (.int .i64 (whereI (isName name) v.fields)) ∧ Below ((w.alloc o1).alloc (.cells #[.string name] 9)).heap.size ((w.alloc o1).alloc (.cells #[.string name] 9)) w' := by
    intro o1
    rw [← f1]
    have hW := hB o1 (.cells #[.string name] 9)
    have hm : ∀ b, True → b < w.heap.size → True ∧ ((w.alloc o1).alloc (.cells #[.string name] 9)).heap[b]? = w.heap[b]? := fun b _ h => ⟨trivial, hW.block b h⟩
    exact IndexFunc_any 62 _ entersPlace1 (isName name) n fs f _ (f2.move hm) (fun e he => Lies.below hW (f3 e he)) fun x hx W hWW => place1_any x.name name x.v x.l x.f _ _ W (Rep.shape (f3 x hx)) (by rw [hWW.cell (by simp)]; simp)
  obtain ⟨a1, c1, a3, c3, rfl, rfl⟩ := h.slices
  clear h f2 f3
  by_cases hk : v.kind = 5
  · rw [if_pos hk, hk]
    clear hk
    go_enter Tryz.func45, Tryz.ntmps45
    go_wp2_with fail
    refine (hF _).mono ?_
    rintro e w' ⟨rfl, hb⟩
    go_wp2
    go_ret
    exact ⟨rfl, (hB _ _).trans (hb.mono (hB _ _).size)⟩
  · rw [if_neg hk]
    have e5 : (v.kind != 5) = true := by simpa using hk
    clear hF
    go_enter Tryz.func45, Tryz.ntmps45
    go_wp2
    go_ret
    exact ⟨rfl, hB _ _⟩

/-- ahead of which field a new one is put. -/
def aboveI (name : ByteArray) (fs : List (ByteArray × V)) : Int := if whereI (isAbove name) fs < 0 then fs.length else whereI (isAbove name) fs
theorem above_any (n : Nat) (fs : List Fl) (f : Value) (name : ByteArray) (w : World) (f2 : RowAt (fun _ => True) w 44 6 f fs.length (encFs fs)) (f3 : ∀ e ∈ fs, Lies n w e.v e.l e.f) :
    Calls Tryz.prog 57 #[f, .string name] w fun e w' => e = .returned (.int .i64 (aboveI name (fs.map Fl.pair))) ∧ Below w.heap.size w w' := by
  have hB : ∀ (o1 : Obj), Below w.heap.size w (w.alloc o1) := fun o1 => (Below.refl _ _).alloc (Nat.le_refl _) _
  have hF : Calls Tryz.prog 50 #[f, .func (.func 72) #[] #[.pointer (some ⟨w.heap.size, 0, none⟩)]] (w.alloc (.cells #[.string name] 9)) fun e w' => e = .returned (.int .i64 (whereI (isAbove name) (fs.map Fl.pair))) ∧ Below (w.alloc (.cells #[.string name] 9)).heap.size (w.alloc (.cells #[.string name] 9)) w' := by
    have hW := hB (.cells #[.string name] 9)
    have hm : ∀ b, True → b < w.heap.size → True ∧ (w.alloc (.cells #[.string name] 9)).heap[b]? = w.heap[b]? := fun b _ h => ⟨trivial, hW.block b h⟩
    exact IndexFunc_any 72 _ entersAbove1 (isAbove name) n fs f _ (f2.move hm) (fun e he => Lies.below hW (f3 e he)) fun x hx W hWW => above1_any x.name name x.v x.l x.f _ _ W (Rep.shape (f3 x hx)) (by rw [hWW.cell (by simp)]; simp)
  obtain ⟨a3, c3, rfl⟩ := f2.slice
  have hl := f2.2.1
  have hr := whereI_range (isAbove name) (fs.map Fl.pair)
  have ha : aboveI name (fs.map Fl.pair) = if whereI (isAbove name) (fs.map Fl.pair) < 0 then (fs.length : Int) else whereI (isAbove name) (fs.map Fl.pair) := by unfold aboveI; simp
  rw [ha]
  clear f2 f3 ha
  generalize whereI (isAbove name) (fs.map Fl.pair) = r at *
  by_cases h0 : r < 0
  · rw [if_pos h0]
    go_enter Tryz.func57, Tryz.ntmps57
    go_wp2_with fail
    refine hF.mono ?_
    rintro e w' ⟨rfl, hb⟩
    go_wp2
    go_ret
    exact ⟨rfl, (hB _).trans (hb.mono (hB _).size)⟩
  · rw [if_neg h0]
    go_enter Tryz.func57, Tryz.ntmps57
    go_wp2_with fail
    refine hF.mono ?_
    rintro e w' ⟨rfl, hb⟩
    go_wp2
    go_ret
    exact ⟨rfl, (hB _).trans (hb.mono (hB _).size)⟩
end Go.Proofs.YtgcccihnlecpnaaGreatDoor

namespace Go.Proofs.YtgcccihnlecpnaaGreatDoor
open Go.RowKit

theorem step_append_eq {P : Program} {ops : Array Oper} {o : Oper} {a : Act} {w : World} {K : Act → World → Prop} {Q : Exit → Act → World → Prop} {E : Prop}
    (hg : o.guard = none) (s x : Operand) (t tn : TypeId) (hop : o.op = Op.call { callee := Callee.builtin Builtin.append, args := #[s, x], argTypes := #[t, tn] })
    (vs vx : Value) (hs : a.eval s = vs) (hx : a.eval x = vx) (v' : Value) (w' : World) (hr : (Builtin.append_ #[t, tn] o.type #[vs, vx]).run P w = .ok v' w') (hK : K (a.put o.dst v') w') :
    if Region.wanted o (yielded ops a.tmps) = true then Oper.wp P o a w K Q else E := by
  have hw : Region.wanted o (yielded ops a.tmps) = true := by simp [Region.wanted, hg]
  rw [if_pos hw]
  unfold Oper.wp
  simp [execOp, hop, resolve, invoke, builtin, hs, hx, hr, Result.andThen]
  exact hK
theorem step_copy_eq {P : Program} {ops : Array Oper} {o : Oper} {a : Act} {w : World} {K : Act → World → Prop} {Q : Exit → Act → World → Prop} {E : Prop}
    (hg : o.guard = none) (s x : Operand) (t tn : TypeId) (hop : o.op = Op.call { callee := Callee.builtin Builtin.copy, args := #[s, x], argTypes := #[t, tn] })
    (vs vx : Value) (hs : a.eval s = vs) (hx : a.eval x = vx) (v' : Value) (w' : World) (hr : (Builtin.copy_ #[t, tn] o.type #[vs, vx]).run P w = .ok v' w') (hK : K (a.put o.dst v') w') :
    if Region.wanted o (yielded ops a.tmps) = true then Oper.wp P o a w K Q else E := by
  have hw : Region.wanted o (yielded ops a.tmps) = true := by simp [Region.wanted, hg]
  rw [if_pos hw]
  unfold Oper.wp
  simp [execOp, hop, resolve, invoke, builtin, hs, hx, hr, Result.andThen]
  exact hK

theorem encFs_one {fs : List Fl} (h : ∀ e ∈ fs, ∃ a1 n1 c1 a2 n2 c2, e.l = .slice a1 n1 c1 ∧ e.f = .slice a2 n2 c2) : ∀ u ∈ encFs fs, u.oneCell' = true := by
  intro u hu
  obtain ⟨e, he, hu⟩ := List.mem_flatMap.1 hu
  obtain ⟨a1, n1, c1, a2, n2, c2, h1, h2⟩ := h e he
  simp only [Fl.enc, h1, h2, List.mem_cons, List.not_mem_nil, or_false] at hu
  rcases hu with rfl | rfl | rfl | rfl | rfl | rfl <;> rfl
theorem encEs_one {es : List El} (h : ∀ e ∈ es, ∃ a1 n1 c1 a2 n2 c2, e.l = .slice a1 n1 c1 ∧ e.f = .slice a2 n2 c2) : ∀ u ∈ encEs es, u.oneCell' = true := by
  intro u hu
  obtain ⟨e, he, hu⟩ := List.mem_flatMap.1 hu
  obtain ⟨a1, n1, c1, a2, n2, c2, h1, h2⟩ := h e he
  simp only [El.enc, h1, h2, List.mem_cons, List.not_mem_nil, or_false] at hu
  rcases hu with rfl | rfl | rfl | rfl | rfl <;> rfl
theorem encFs_take : ∀ (fs : List Fl) (i : Nat), (encFs fs).take (i * 6) = encFs (fs.take i)
  | [], i => by simp [encFs]
  | f :: fs, 0 => by simp [encFs]
  | f :: fs, i + 1 => by
    have ih := encFs_take fs i
    unfold encFs at ih ⊢
    rw [List.take_succ_cons, List.flatMap_cons, List.flatMap_cons, show (i + 1) * 6 = f.enc.length + i * 6 by simp [Fl.enc]; omega, List.take_length_add_append, ih]
theorem encFs_drop : ∀ (fs : List Fl) (i : Nat), (encFs fs).drop (i * 6) = encFs (fs.drop i)
  | [], i => by simp [encFs]
  | f :: fs, 0 => by simp [encFs]
  | f :: fs, i + 1 => by
    have ih := encFs_drop fs i
    unfold encFs at ih ⊢
    rw [List.drop_succ_cons, List.flatMap_cons, show (i + 1) * 6 = f.enc.length + i * 6 by simp [Fl.enc]; omega, List.drop_length_add_append, ih]

theorem clear_rows {W : World} {B o n c : Nat} {cur : Array Value} (hg : W.heap[B]? = some (.cells cur 44 (0, 0))) (h : o + (n + 1) * 6 ≤ cur.size) :
    ∃ cs, cs.length = (n + 1) * 6 ∧ ∀ ty, (Builtin.clear_ #[26] ty #[.slice (some ⟨B, o, none⟩) (n + 1) c]).run Tryz.prog W = .ok (.tuple #[]) (W.setRow B (cur.toList.take o ++ cs ++ cur.toList.drop (o + (n + 1) * 6)).toArray) := by
  obtain ⟨i, hi, hz, hs, hby⟩ := info_parts infoF
  refine ⟨(Builtin.zeroCells (Value.agg #[.string ⟨#[]⟩, .int .i64 0, .int .i64 0, .string ⟨#[]⟩, .slice none 0 0, .slice none 0 0]).cells (n + 1)).toList, ?_, ?_⟩
  · have := size_zeroCells (Value.agg #[.string ⟨#[]⟩, .int .i64 0, .int .i64 0, .string ⟨#[]⟩, .slice none 0 0, .slice none 0 0]).cells (n + 1)
    rw [Array.length_toList, this]; rfl
  · have hl : (Builtin.zeroCells (Value.agg #[.string ⟨#[]⟩, .int .i64 0, .int .i64 0, .string ⟨#[]⟩, .slice none 0 0, .slice none 0 0]).cells (n + 1)).toList.length = (n + 1) * 6 := by
      have := size_zeroCells (Value.agg #[.string ⟨#[]⟩, .int .i64 0, .int .i64 0, .string ⟨#[]⟩, .slice none 0 0, .slice none 0 0]).cells (n + 1)
      rw [Array.length_toList, this]; rfl
    have h1 : ∀ v ∈ (Builtin.zeroCells (Value.agg #[.string ⟨#[]⟩, .int .i64 0, .int .i64 0, .string ⟨#[]⟩, .slice none 0 0, .slice none 0 0]).cells (n + 1)).toList, v.oneCell' = true := by
      intro v hv
      simp only [Builtin.zeroCells, Array.mem_toList_iff, Array.mem_map, Array.mem_range] at hv
      obtain ⟨r, _, rfl⟩ := hv
      have hr : r % 6 < 6 := Nat.mod_lt _ (by omega)
      have : ∀ q, q < 6 → (#[Value.string ⟨#[]⟩, .int .i64 0, .int .i64 0, .string ⟨#[]⟩, .slice none 0 0, .slice none 0 0][q]!).oneCell' = true := by
        intro q hq
        match q, hq with
        | 0, _ => rfl
        | 1, _ => rfl
        | 2, _ => rfl
        | 3, _ => rfl
        | 4, _ => rfl
        | 5, _ => rfl
      exact this _ hr
    have hst := run_storeCells_at Tryz.prog B o 44 _ 0 cur W hg (by rw [hl]; simpa using h) h1
    rw [hl] at hst
    simp only [Nat.add_zero] at hst
    intro ty
    simp [Builtin.clear_, run_underlying Tryz.underlying26, zeroValue, typeInfo, hi, hz, hst]

theorem setRow_grown {w : World} {B : Nat} (cs : Array Value) : w.grownBy (w.setRow B cs) (some B) :=
  ⟨rfl, rfl, rfl, by simp, fun k _ hk => setRow_other w B k _ (fun e => hk (by rw [e]))⟩

set_option maxHeartbeats 2000000 in
theorem Delete_rows (B i m : Nat) (w : World) (cur : Array Value) (hg : w.heap[B]? = some (.cells cur 44 (0, 0))) (hsz : cur.size = (i + 1 + m) * 6) (hone : ∀ u ∈ cur.toList, u.oneCell' = true) (hn : i + 1 + m ≤ 1000000) :
    Calls Tryz.prog 46 #[.slice (some ⟨B, 0, none⟩) (i + 1 + m) (i + 1 + m), .int .i64 (i : Int), .int .i64 ((i : Int) + 1)] w
      fun e w' => e = .returned (.slice (some ⟨B, 0, none⟩) (i + m) (i + 1 + m)) ∧ (∃ cur', w'.heap[B]? = some (.cells cur' 44 (0, 0)) ∧ cur'.size = (i + 1 + m) * 6 ∧ cur'.toList.take ((i + m) * 6) = cur.toList.take (i * 6) ++ cur.toList.drop ((i + 1) * 6)) ∧ w.grownBy w' (some B) := by
  obtain ⟨j0, hi0, hz0, hz1, hz2⟩ := info_parts infoF
  have hic : i ≤ i + 1 + m := by omega
  have hjc : i + 1 ≤ i + 1 + m := by omega
  have zi1 : (0 : Int) ≤ (i : Int) + 1 := by omega
  have zi3 : (i : Int) ≤ (i : Int) + 1 + (m : Int) := by omega
  have zi2 : (i : Int) + 1 ≤ (i : Int) + 1 + (m : Int) := by omega
  obtain ⟨news, hnews⟩ : ∃ news, news = cur.toList.drop ((i + 1) * 6) := ⟨_, rfl⟩
  have hlen : news.length = m * 6 := by rw [hnews]; simp; omega
  obtain ⟨A, hA, hsrc⟩ : ∃ A : Addr, (if m = 0 then some (⟨B, 0, none⟩ : Addr) else some ⟨B, (i + 1) * 6, none⟩) = some A ∧ Hid (∀ t u, news[t]? = some u → w.drew.cell? (A.add t) = some u) := by
    by_cases h : m = 0
    · refine ⟨⟨B, 0, none⟩, by rw [if_pos h], fun t u hu => ?_⟩
      have h0 : news.length = 0 := by rw [hlen]; omega
      rw [List.length_eq_zero_iff.1 h0] at hu
      simp at hu
    · refine ⟨⟨B, (i + 1) * 6, none⟩, by rw [if_neg h], fun t u hu => ?_⟩
      rw [Addr.add_lit]
      rw [hnews, List.getElem?_drop] at hu
      show w.cell? _ = _
      simpa [World.cell?, hg] using hu
  obtain ⟨row1, hrow1⟩ : ∃ row1, row1 = (cur.toList.take (i * 6) ++ news ++ cur.toList.drop (i * 6 + news.length)).toArray := ⟨_, rfl⟩
  have hs1 : row1.size = (i + 1 + m) * 6 := by rw [hrow1]; simp; omega
  obtain ⟨W1, hW1⟩ : ∃ W1, W1 = w.drew.setRow B row1 := ⟨_, rfl⟩
  have happ : Hid (∀ ty, (Builtin.append_ #[26, 26] ty #[.slice (some ⟨B, 0, none⟩) i (i + 1 + m), .slice (some A) m m]).run Tryz.prog w.drew = .ok (.slice (some ⟨B, 0, none⟩) (i + m) (i + 1 + m)) W1) := by
    intro ty
    have := run_append_room (P := Tryz.prog) w.drew 26 ty 44 j0 Tryz.underlying26 hi0 B i (i + 1 + m) cur hg A m m news (by rw [hz1]; exact hlen) hsrc.out (by intro u hu; rw [hnews] at hu; exact hone u (List.mem_of_mem_drop hu)) (by omega) (by rw [hz1, hlen, hsz]; omega)
    rw [this, hz1, hW1, hrow1]
  have hg1 : W1.heap[B]? = some (.cells row1 44 (0, 0)) := by rw [hW1]; exact setRow_heap w.drew B cur row1 _ _ hg
  obtain ⟨zs, hzl, hcl⟩ := clear_rows (W := W1) (B := B) (o := (i + m) * 6) (n := 0) (c := 1) hg1 (by rw [hs1]; omega)
  simp only [Nat.zero_add, Nat.one_mul] at hcl hzl
  obtain ⟨row2, hrow2⟩ : ∃ row2, row2 = (row1.toList.take ((i + m) * 6) ++ zs ++ row1.toList.drop ((i + m) * 6 + 6)).toArray := ⟨_, rfl⟩
  rw [← hrow2] at hcl
  have e1 : i + 1 + m - (i + m) = 1 := by omega
  have e2 : ¬ i + 1 + m = i + m := by omega
  have S := (show Hid _ from And.intro hg1 (And.intro hs1 (And.intro hrow1 (And.intro hrow2 (And.intro hW1 (And.intro hnews (And.intro hlen (And.intro hzl hsz))))))))
  clear hg1 hs1 hrow1 hrow2 hW1 hnews hlen hzl hsrc hsz hone hi0 hz0 hz1 hz2
  go_enter Tryz.func46, Tryz.ntmps46
  go_wp2_with fail
  go_region_law (refine step_append_eq rfl (.tmp 22) (.tmp 25) 26 26 rfl _ _ (by simp [Act.eval, Act.put]) (by simp [Act.eval, Act.put]) _ _ (happ.out _) ?_)
  go_wp2
  go_ret
  obtain ⟨hg1, hs1, hrow1, hrow2, hW1, hnews, hlen, hzl, hsz⟩ := S.out
  have hl1 : (row1.toList.take ((i + m) * 6)).length = (i + m) * 6 := by simp; omega
  refine ⟨rfl, ⟨row2, setRow_heap W1 B row1 row2 _ _ hg1, ?_, ?_⟩, ?_⟩
  · rw [hrow2]; simp; omega
  · rw [hrow2, List.toList_toArray, List.append_assoc, List.take_append_of_le_length (by omega), List.take_of_length_le (by omega), hrow1, List.toList_toArray]
    have hl2 : (cur.toList.take (i * 6) ++ news).length = (i + m) * 6 := by simp; omega
    rw [List.take_append_of_le_length (by omega), List.take_of_length_le (by omega), hnews]
  · rw [hW1, setRow_setRow]
    exact ⟨rfl, rfl, rfl, by simp, fun k _ hk => setRow_other w.drew B k _ (fun e => hk (by rw [e]))⟩
theorem Delete_any (fs : List Fl) (B i : Nat) (w : World) (hone : ∀ u ∈ encFs fs, u.oneCell' = true) (cur : Array Value) (hg : w.heap[B]? = some (.cells cur 44 (0, 0))) (hcur : cur.toList = encFs fs) (hn : fs.length ≤ 1000000) (hi : i < fs.length) :
    Calls Tryz.prog 46 #[.slice (some ⟨B, 0, none⟩) fs.length fs.length, .int .i64 (i : Int), .int .i64 ((i : Int) + 1)] w
      fun e w' => e = .returned (.slice (some ⟨B, 0, none⟩) (fs.length - 1) fs.length) ∧ (∃ cur', w'.heap[B]? = some (.cells cur' 44 (0, 0)) ∧ cur'.size = fs.length * 6 ∧ cur'.toList.take ((fs.length - 1) * 6) = encFs (fs.take i ++ fs.drop (i + 1))) ∧ w.grownBy w' (some B) := by
  have hsz : cur.size = fs.length * 6 := by rw [← Array.length_toList, hcur, encFs_length]
  obtain ⟨m, hm⟩ : ∃ m, fs.length = i + 1 + m := ⟨fs.length - (i + 1), by omega⟩
  have h := Delete_rows B i m w cur hg (by rw [hsz, hm]) (by rw [hcur]; exact hone) (by omega)
  rw [hm, show i + 1 + m - 1 = i + m by omega, encFs_append, ← encFs_take, ← encFs_drop, ← hcur]
  exact h
end Go.Proofs.YtgcccihnlecpnaaGreatDoor

namespace Go.Proofs.YtgcccihnlecpnaaGreatDoor
open Go.RowKit

def I64 (x : Int) : Prop := -9223372036854775808 ≤ x ∧ x ≤ 9223372036854775807
def wordAt : Nat → ByteArray
  | 0 => ⟨#[]⟩
  | 1 => ⟨#[97]⟩
  | 2 => ⟨#[98]⟩
  | 3 => ⟨#[97, 98]⟩
  | 4 => ⟨#[0]⟩
  | 5 => ⟨#[195, 169]⟩
  | 6 => ⟨#[122, 0]⟩
  | _ => ⟨#[108, 111, 110, 103, 44, 32, 97, 110, 100, 32, 108, 111, 110, 103, 101, 114]⟩
theorem wordAt_size (i : Nat) : (wordAt i).size ≤ 16 := by
  unfold wordAt
  split <;> decide
def nameAt : Nat → ByteArray
  | 0 => ⟨#[97]⟩
  | 1 => ⟨#[98]⟩
  | 2 => ⟨#[99]⟩
  | _ => ⟨#[110]⟩
theorem nameAt_size (i : Nat) : (nameAt i).size ≤ 1 := by
  unfold nameAt
  split <;> decide
/-- what a value's number and text are beside its kind. -/
def Wd (k m : Int) (t : ByteArray) : Prop := (∃ i, t = wordAt i) ∧ (k = 1 → m = 0 ∨ m = 1)
theorem Wd.size {k m : Int} {t : ByteArray} (h : Wd k m t) : t.size ≤ 16 := by
  obtain ⟨⟨i, rfl⟩, _⟩ := h
  exact wordAt_size i
theorem Wd.no (k m : Int) (h : k ≠ 1) : Wd k m ⟨#[]⟩ := ⟨⟨0, rfl⟩, fun e => absurd e h⟩
/-- a value as the law makes them, so deep. -/
def Nice : Nat → V → Prop
  | 0, v => 0 ≤ v.kind ∧ v.kind ≤ 5 ∧ I64 v.num ∧ Wd v.kind v.num v.text ∧ v.list = [] ∧ v.fields = []
  | n + 1, v => 0 ≤ v.kind ∧ v.kind ≤ 5 ∧ I64 v.num ∧ Wd v.kind v.num v.text ∧ v.list.length ≤ 3 ∧ v.fields.length ≤ 4 ∧ Rises v.fields ∧ (∀ x ∈ v.list, Nice n x) ∧ (∀ p ∈ v.fields, (∃ i, p.1 = nameAt i) ∧ Nice n p.2)
theorem Nice.plain : ∀ (n : Nat) {v : V}, 0 ≤ v.kind → v.kind ≤ 5 → I64 v.num → Wd v.kind v.num v.text → v.list = [] → v.fields = [] → Nice n v
  | 0, _, h1, h2, h3, h4, h5, h6 => ⟨h1, h2, h3, h4, h5, h6⟩
  | n + 1, _, h1, h2, h3, h4, h5, h6 => ⟨h1, h2, h3, h4, by simp [h5], by simp [h6], (by rw [h6]; trivial), fun x hx => (by rw [h5] at hx; cases hx), fun x hx => (by rw [h6] at hx; cases hx)⟩

theorem nameAt_less {i j : Nat} (h : i < j) (hj : j < 4) : cmpT (nameAt i) (nameAt j) < 0 := by
  rw [cmpT_data]
  obtain rfl | rfl | rfl : j = 1 ∨ j = 2 ∨ j = 3 := by omega
  · obtain rfl : i = 0 := by omega
    decide
  · obtain rfl | rfl : i = 0 ∨ i = 1 := by omega
    · decide
    · decide
  · obtain rfl | rfl | rfl : i = 0 ∨ i = 1 ∨ i = 2 := by omega
    · decide
    · decide
    · decide
/-- the two tables of the law. -/
structure Tabs (w : World) : Prop where
  words : ∀ i, i < 8 → w.cell? ⟨0, i, none⟩ = some (.string (wordAt i))
  names : ∀ i, i < 4 → w.cell? ⟨1, i, none⟩ = some (.string (nameAt i))
theorem Tabs.below {w w' : World} (h : Tabs w) (hb : Below w.heap.size w w') : Tabs w' :=
  ⟨fun i hi => by rw [hb.cell (lt_of_cell (h.words i hi))]; exact h.words i hi, fun i hi => by rw [hb.cell (lt_of_cell (h.names i hi))]; exact h.names i hi⟩

/-- a slice of bytes. -/
def BytesAt (W : World) (s : Value) (bs : List UInt8) : Prop :=
  ∃ (a : Option Addr) (cap : Nat), s = .slice a bs.length cap ∧ bs.length ≤ cap ∧ cap ≤ 9223372036854775807 ∧ (bs ≠ [] → ∃ b o, a = some ⟨b, o, none⟩ ∧ ∀ (j : Nat) (u : UInt8), bs[j]? = some u → W.cell? ⟨b, o + j, none⟩ = some (.int .u8 u.toNat))
theorem BytesAt.below {W W' : World} {s : Value} {bs : List UInt8} (h : BytesAt W s bs) (hb : Below W.heap.size W W') : BytesAt W' s bs := by
  obtain ⟨a, cap, h1, h2, h3, h4⟩ := h
  refine ⟨a, cap, h1, h2, h3, fun hne => ?_⟩
  obtain ⟨b, o, h5, h6⟩ := h4 hne
  exact ⟨b, o, h5, fun j u hj => by rw [hb.cell (lt_of_cell (h6 j u hj))]; exact h6 j u hj⟩

theorem rises_snoc {nm : ByteArray} {x : V} : ∀ {ps : List (ByteArray × V)}, Rises ps → (∀ p ∈ ps, cmpT p.1 nm < 0) → Rises (ps ++ [(nm, x)])
  | [], _, _ => trivial
  | [p], _, h => ⟨h p (by simp), trivial⟩
  | p :: q :: ps, hr, h => ⟨hr.1, rises_snoc hr.2 fun r hr => h r (List.mem_cons_of_mem _ hr)⟩

set_option maxHeartbeats 1000000 in
theorem one_any (q : Int) (h0 : 0 ≤ q) (h1 : q ≤ 42) (w : World) : Calls Tryz.prog 29 #[.int .u8 q] w fun e w' => ∃ m, e = .returned (.int .i64 m) ∧ I64 m ∧ w' = w := by
  by_cases e0 : q % 8 = 0
  · go_enter Tryz.func29, Tryz.ntmps29
    go_wp2
    go_ret
    exact ⟨_, rfl, ⟨by omega, by omega⟩, rfl⟩
  by_cases e1 : q % 8 = 1
  · go_enter Tryz.func29, Tryz.ntmps29
    go_wp2
    go_ret
    exact ⟨_, rfl, ⟨by omega, by omega⟩, rfl⟩
  by_cases e2 : q % 8 = 2
  · go_enter Tryz.func29, Tryz.ntmps29
    go_wp2
    go_ret
    exact ⟨_, rfl, ⟨by omega, by omega⟩, rfl⟩
  have f0 : (q % 8 == 0) = false := by simpa using e0
  have f1 : (q % 8 == 1) = false := by simpa using e1
  have f2 : (q % 8 == 2) = false := by simpa using e2
  go_enter Tryz.func29, Tryz.ntmps29
  go_wp2
  go_ret
  exact ⟨_, rfl, ⟨by omega, by omega⟩, rfl⟩
end Go.Proofs.YtgcccihnlecpnaaGreatDoor

namespace Go.Proofs.YtgcccihnlecpnaaGreatDoor
open Go.RowKit

theorem Nice.up : ∀ (n : Nat) (v : V), Nice n v → Up (n + 1) v
  | 0, v, h => by
    obtain ⟨_, _, _, _, h5, h6⟩ := h
    refine ⟨by rw [h6]; trivial, fun x hx => ?_, fun p hp => ?_⟩
    · rw [h5] at hx; cases hx
    · rw [h6] at hp; cases hp
  | n + 1, v, h => by
    obtain ⟨_, _, _, _, _, _, h7, h8, h9⟩ := h
    exact ⟨h7, fun x hx => Nice.up n x (h8 x hx), fun p hp => Nice.up n p.2 (h9 p hp).2⟩
/-- the words that a way is made of. -/
def wayAt (i : Nat) : ByteArray := match i % 10 with
  | 0 => ⟨#[97]⟩ | 1 => ⟨#[98]⟩ | 2 => ⟨#[99]⟩ | 3 => ⟨#[110]⟩ | 4 => ⟨#[48]⟩ | 5 => ⟨#[49]⟩ | 6 => ⟨#[50]⟩ | 7 => ⟨#[48, 48]⟩ | 8 => ⟨#[120]⟩ | _ => ⟨#[45, 49]⟩
/-- those of which the law asks. -/
def askAt (i : Nat) : ByteArray := match i with
  | 0 => ⟨#[97]⟩ | 1 => ⟨#[98]⟩ | 2 => ⟨#[99]⟩ | 3 => ⟨#[110]⟩ | 4 => ⟨#[48]⟩ | 5 => ⟨#[49]⟩ | 6 => ⟨#[50]⟩ | _ => ⟨#[120]⟩
theorem itoa0 : Lib.itoa 0 = [48] := by unfold Lib.itoa; rw [if_neg (by decide)]; show Lib.decDigits 0 = _; rw [Lib.decDigits]; rfl
theorem itoa1 : Lib.itoa 1 = [49] := by unfold Lib.itoa; rw [if_neg (by decide)]; show Lib.decDigits 1 = _; rw [Lib.decDigits]; rfl
theorem itoa2 : Lib.itoa 2 = [50] := by unfold Lib.itoa; rw [if_neg (by decide)]; show Lib.decDigits 2 = _; rw [Lib.decDigits]; rfl
theorem place0 : placeOf ⟨#[48]⟩ = some 0 := by
  show (if 0 ≤ (0 : Int) ∧ Lib.itoa 0 = [48] then some (0 : Int).toNat else none) = _
  rw [itoa0]; rfl
theorem place1 : placeOf ⟨#[49]⟩ = some 1 := by
  show (if 0 ≤ (1 : Int) ∧ Lib.itoa 1 = [49] then some (1 : Int).toNat else none) = _
  rw [itoa1]; rfl
theorem place2 : placeOf ⟨#[50]⟩ = some 2 := by
  show (if 0 ≤ (2 : Int) ∧ Lib.itoa 2 = [50] then some (2 : Int).toNat else none) = _
  rw [itoa2]; rfl
theorem place00 : placeOf ⟨#[48, 48]⟩ = none := by
  show (if 0 ≤ (0 : Int) ∧ Lib.itoa 0 = [48, 48] then some (0 : Int).toNat else none) = _
  rw [itoa0]; rfl
theorem way_place (i : Nat) : placeOf (wayAt i) = if i % 10 = 4 then some 0 else if i % 10 = 5 then some 1 else if i % 10 = 6 then some 2 else none := by
  have h : i % 10 < 10 := Nat.mod_lt _ (by decide)
  unfold wayAt
  generalize i % 10 = k at *
  rcases (by omega : k = 0 ∨ k = 1 ∨ k = 2 ∨ k = 3 ∨ k = 4 ∨ k = 5 ∨ k = 6 ∨ k = 7 ∨ k = 8 ∨ k = 9) with rfl | rfl | rfl | rfl | rfl | rfl | rfl | rfl | rfl | rfl <;> first | rfl | exact place0 | exact place1 | exact place2 | exact place00
theorem ask_place (i : Nat) (hi : i < 8) : placeOf (askAt i) = if i = 4 then some 0 else if i = 5 then some 1 else if i = 6 then some 2 else none := by
  rcases (by omega : i = 0 ∨ i = 1 ∨ i = 2 ∨ i = 3 ∨ i = 4 ∨ i = 5 ∨ i = 6 ∨ i = 7) with rfl | rfl | rfl | rfl | rfl | rfl | rfl | rfl <;> first | rfl | exact place0 | exact place1 | exact place2
/-- two of them that are not the same have not the same place. -/
theorem ask_apart (i j : Nat) (hi : i < 8) (h : ¬ cmpT (askAt i) (wayAt j) = 0) : ∀ k, placeOf (wayAt j) = some k → placeOf (askAt i) ≠ some k := by
  intro k hk hq
  apply h
  rw [way_place] at hk
  rw [ask_place i hi] at hq
  have hj : j % 10 < 10 := Nat.mod_lt _ (by decide)
  have e : (j % 10 = 4 ∧ k = 0) ∨ (j % 10 = 5 ∧ k = 1) ∨ (j % 10 = 6 ∧ k = 2) := by
    repeat' split at hk
    all_goals simp at hk
    all_goals omega
  have e2 : (i = 4 ∧ k = 0) ∨ (i = 5 ∧ k = 1) ∨ (i = 6 ∧ k = 2) := by
    repeat' split at hq
    all_goals simp at hq
    all_goals omega
  unfold wayAt
  rcases e with ⟨ej, rfl⟩ | ⟨ej, rfl⟩ | ⟨ej, rfl⟩
  · obtain rfl : i = 4 := by omega
    rw [ej]; exact good_cmpT.refl _
  · obtain rfl : i = 5 := by omega
    rw [ej]; exact good_cmpT.refl _
  · obtain rfl : i = 6 := by omega
    rw [ej]; exact good_cmpT.refl _
end Go.Proofs.YtgcccihnlecpnaaGreatDoor
