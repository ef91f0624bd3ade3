/-
  slices.IndexFunc at fields, package value's place and above by their contracts. No conditions beyond those stated.
-/
import Derived.Test.YtgcccihnlecpnaaGreatDoorVTwin3
import Derived.Test.YtgcccihnlecpnaaGreatDoorVCmp3
namespace Go.Proofs.YtgcccihnlecpnaaGreatDoor
open Go.RowKit

/-- where the first one is that is asked for; -1: nowhere. -/
def whereI {α : Type} (p : α → Bool) : List α → Int
  | [] => -1
  | x :: xs => if p x then 0 else if whereI p xs < 0 then -1 else 1 + whereI p xs
theorem whereI_hit {α : Type} (p : α → Bool) : ∀ (k : Nat) (l : List α) (x : α), l[k]? = some x → p x = true → (∀ j y, j < k → l[j]? = some y → p y = false) → whereI p l = k
  | 0, [], _, h, _, _ => by simp at h
  | 0, y :: l, x, h, hp, _ => by simp at h; subst h; simp [whereI, hp]
  | k + 1, [], _, h, _, _ => by simp at h
  | k + 1, y :: l, x, h, hp, hn => by
    have h0 := hn 0 y (by omega) rfl
    have ih := whereI_hit p k l x (by simpa using h) hp fun j z hj hz => hn (j + 1) z (by omega) (by simpa using hz)
    simp only [whereI, h0, ih]
    rw [if_neg (by simp), if_neg (by omega)]
    omega
theorem whereI_miss {α : Type} (p : α → Bool) : ∀ (l : List α), (∀ y ∈ l, p y = false) → whereI p l = -1
  | [], _ => rfl
  | y :: l, h => by
    simp [whereI, h y (by simp), whereI_miss p l fun z hz => h z (by simp [hz])]
theorem whereI_range {α : Type} (p : α → Bool) : ∀ (l : List α), whereI p l = -1 ∨ (0 ≤ whereI p l ∧ whereI p l < l.length)
  | [] => .inl rfl
  | y :: l => by
    have ih := whereI_range p l
    simp only [whereI]
    split
    · right; simp
    · split
      · exact .inl rfl
      · right; simp; omega

set_option maxHeartbeats 2000000 in
theorem IndexFunc_any (g : Nat) (cv : Value) (eg : ∀ args w, (callFunc g args).run Tryz.prog w = .ok (.enter g args) w) (p : ByteArray × V → Bool) (n : Nat) (xs : List Fl) (sa : Value) (w : World)
    (ha : RowAt (fun _ => True) w 44 6 sa xs.length (encFs xs)) (la : ∀ e ∈ xs, Lies n w e.v e.l e.f)
    (hg : ∀ x ∈ xs, ∀ W, Below w.heap.size w W → Calls Tryz.prog g #[.agg #[.string x.name, .int .i64 x.v.kind, .int .i64 x.v.num, .string x.v.text, x.l, x.f], cv] W fun e w' => e = .returned (.bool (p x.pair)) ∧ Below W.heap.size W w') :
    Calls Tryz.prog 50 #[sa, .func (.func g) #[] #[cv]] w fun e w' => e = .returned (.int .i64 (whereI p (xs.map Fl.pair))) ∧ Below w.heap.size w w' := by
  obtain ⟨aa, ca, rfl⟩ := ha.slice
  have na := ha.2.1
  go_enter Tryz.func50, Tryz.ntmps50
  go_wp2
  go_loopg [4, 5, 8] xs.length (fun gg _ _ i wr => ∃ k : Nat, k ≤ xs.length ∧ xs.length - k ≤ gg ∧ i = .int .i64 k ∧ Aside (Below w.heap.size w wr) ∧ Aside (∀ j x, j < k → (xs.map Fl.pair)[j]? = some x → p x = false))
  case atStart => exact ⟨0, Nat.zero_le _, by omega, rfl, Below.refl _ w, fun j _ hj => absurd hj (Nat.not_lt_zero _)⟩
  case round =>
    obtain ⟨k, hk, hgg, rfl, BW, A⟩ := hrel
    by_cases hlt : k < xs.length
    · obtain ⟨b, c', e1, hbl, _, hc1, hc2, _⟩ := ha.cells (by omega)
      simp only [Value.slice.injEq, true_and] at e1
      obtain ⟨rfl, rfl⟩ := e1
      obtain ⟨⟨xn, xv, xl, xf⟩, hx⟩ : ∃ x, xs[k]? = some x := ⟨_, List.getElem?_eq_getElem hlt⟩
      have hm : ∀ b, True → b < w.heap.size → True ∧ wr.heap[b]? = w.heap[b]? := fun b _ h => ⟨trivial, BW.out.block b h⟩
      obtain ⟨a0, a1, a2, a3, a4, a5⟩ := (ha.move hm).fl hx
      have hlx : Lies n wr xv xl xf := (la _ (List.mem_of_getElem? hx)).below BW.out
      have HX : Aside ((xs.map Fl.pair)[k]? = some (xn, xv)) := by show _ = _; rw [List.getElem?_map, hx]; rfl
      simp only at a0 a1 a2 a3 a4 a5
      obtain ⟨al, cl, af, cf, rfl, rfl⟩ := hlx.slices
      have hcall := hg _ (List.mem_of_getElem? hx) wr BW.out
      simp only [Fl.pair] at hcall
      have zk : (k : Int) < (xs.length : Int) := by omega
      clear hx hm hlx la hg ha
      by_cases h0 : p (xn, xv) = true
      · rw [h0] at hcall
        go_wp2_with fail
        refine hcall.mono ?_
        rintro e w' ⟨rfl, hb'⟩
        go_wp2
        go_ret
        refine ⟨?_, BW.out.trans (hb'.mono BW.out.size)⟩
        rw [whereI_hit p k _ _ HX.out h0 A.out]
        rfl
      · have h1 : p (xn, xv) = false := by simpa using h0
        rw [h1] at hcall
        go_wp2_with fail
        refine hcall.mono ?_
        rintro e w' ⟨rfl, hb'⟩
        go_wp2
        go_roundg (xs.length - (k + 1))
        case measure => omega
        case rel =>
          refine ⟨k + 1, by omega, by omega, by go_num, BW.out.trans (hb'.mono BW.out.size), (show Aside _ from fun j x hj hx => ?_)⟩
          by_cases e : j = k
          · subst e
            rw [HX.out] at hx
            cases hx
            exact h1
          · exact A.out j x (by omega) hx
    · have hz : ¬ (k : Int) < (xs.length : Int) := by omega
      clear hg la ha
      go_wp2
      go_ret
      refine ⟨?_, BW.out⟩
      rw [whereI_miss p]
      · rfl
      · intro y hy
        obtain ⟨j, hj⟩ := List.getElem?_of_mem hy
        have := (List.getElem?_eq_some_iff.1 hj).1
        exact A.out j y (by simp at this; omega) hj

theorem beq_cmpT (a b : ByteArray) : (a.toList == b.toList) = decide (cmpT a b = 0) := by
  by_cases h : cmpT a b = 0
  · rw [cmpT_eq h]; simp [good_cmpT.refl]
  · have hne : ¬ a.toList = b.toList := fun e => h (by unfold cmpT; rw [e]; exact good_cmpT.refl b)
    rw [decide_eq_false h]; exact beq_false_of_ne hne
theorem gtr_cmpT (a b : ByteArray) : (!Op.bytesLess a.toList b.toList && !(a.toList == b.toList)) = decide (0 < cmpT a b) := by
  rw [bytesLess_eq, beq_cmpT]
  have : cmpB a.toList b.toList = cmpT a b := rfl
  rw [this]
  by_cases h1 : cmpT a b < 0
  · rw [decide_eq_true h1, decide_eq_false (show ¬ 0 < cmpT a b by omega)]; rfl
  · rw [decide_eq_false h1]
    by_cases h2 : cmpT a b = 0
    · rw [decide_eq_true h2, decide_eq_false (show ¬ 0 < cmpT a b by omega)]; rfl
    · rw [decide_eq_false h2, decide_eq_true (show 0 < cmpT a b by omega)]; rfl

def isName (name : ByteArray) (q : ByteArray × V) : Bool := decide (cmpT q.1 name = 0)
def isAbove (name : ByteArray) (q : ByteArray × V) : Bool := decide (0 < cmpT q.1 name)

theorem place1_any (q name : ByteArray) (v : V) (l f : Value) (b o : Nat) (w : World) (hs : ∃ a1 n1 c1 a2 n2 c2, l = .slice a1 n1 c1 ∧ f = .slice a2 n2 c2) (ha : w.cell? ⟨b, o, none⟩ = some (.string name)) :
    Calls Tryz.prog 62 #[.agg #[.string q, .int .i64 v.kind, .int .i64 v.num, .string v.text, l, f], .pointer (some ⟨b, o, none⟩)] w fun e w' => e = .returned (.bool (isName name (q, v))) ∧ Below w.heap.size w w' := by
  obtain ⟨a1, n1, c1, a2, n2, c2, rfl, rfl⟩ := hs
  have hb := lt_of_cell ha
  unfold isName
  rw [← beq_cmpT]
  go_enter Tryz.func62, Tryz.ntmps62
  go_wp2
  go_ret
  exact ⟨rfl, (Below.refl _ _).alloc (Nat.le_refl _) _⟩
theorem above1_any (q name : ByteArray) (v : V) (l f : Value) (b o : Nat) (w : World) (hs : ∃ a1 n1 c1 a2 n2 c2, l = .slice a1 n1 c1 ∧ f = .slice a2 n2 c2) (ha : w.cell? ⟨b, o, none⟩ = some (.string name)) :
    Calls Tryz.prog 72 #[.agg #[.string q, .int .i64 v.kind, .int .i64 v.num, .string v.text, l, f], .pointer (some ⟨b, o, none⟩)] w fun e w' => e = .returned (.bool (isAbove name (q, v))) ∧ Below w.heap.size w w' := by
  obtain ⟨a1, n1, c1, a2, n2, c2, rfl, rfl⟩ := hs
  have hb := lt_of_cell ha
  unfold isAbove
  rw [← gtr_cmpT]
  go_enter Tryz.func72, Tryz.ntmps72
  go_wp2
  go_ret
  exact ⟨rfl, (Below.refl _ _).alloc (Nat.le_refl _) _⟩
theorem entersPlace1 (args : Array Value) (w : World) : (callFunc 62 args).run Tryz.prog w = .ok (.enter 62 args) w := enters_of Tryz.func62 (by kernel_rfl) rfl args w
theorem entersAbove1 (args : Array Value) (w : World) : (callFunc 72 args).run Tryz.prog w = .ok (.enter 72 args) w := enters_of Tryz.func72 (by kernel_rfl) rfl args w

theorem place_any (n : Nat) (v : V) (l f : Value) (name : ByteArray) (w : World) (h : Lies (n + 1) w v l f) :
    Calls Tryz.prog 45 #[.agg #[.int .i64 v.kind, .int .i64 v.num, .string v.text, l, f], .string name] w fun e w' => e = .returned (.int .i64 (if v.kind = 5 then whereI (isName name) v.fields else -1)) ∧ Below w.heap.size w w' := by
  have hB : ∀ (o1 o2 : Obj), Below w.heap.size w ((w.alloc o1).alloc o2) := fun o1 o2 => ((Below.refl _ _).alloc (Nat.le_refl _) _).alloc (by simp) _
  have h' := h
  obtain ⟨-, ⟨fs, f1, f2, f3⟩⟩ := h'
  have hF : ∀ o1, Calls Tryz.prog 50 #[f, .func (.func 62) #[] #[.pointer (some ⟨w.heap.size + 1, 0, none⟩)]] ((w.alloc o1).alloc (.cells #[.string name] 9)) fun e w' => e = .returned (.int .i64 (whereI (isName name) v.fields)) ∧ Below ((w.alloc o1).alloc (.cells #[.string name] 9)).heap.size ((w.alloc o1).alloc (.cells #[.string name] 9)) w' := by
    intro o1
    rw [← f1]
    have hW := hB o1 (.cells #[.string name] 9)
    have hm : ∀ b, True → b < w.heap.size → True ∧ ((w.alloc o1).alloc (.cells #[.string name] 9)).heap[b]? = w.heap[b]? := fun b _ h => ⟨trivial, hW.block b h⟩
    exact IndexFunc_any 62 _ entersPlace1 (isName name) n fs f _ (f2.move hm) (fun e he => Lies.below hW (f3 e he)) fun x hx W hWW => place1_any x.name name x.v x.l x.f _ _ W (Rep.shape (f3 x hx)) (by rw [hWW.cell (by simp)]; simp)
  obtain ⟨a1, c1, a3, c3, rfl, rfl⟩ := h.slices
  clear h f2 f3
  by_cases hk : v.kind = 5
  · rw [if_pos hk, hk]
    clear hk
    go_enter Tryz.func45, Tryz.ntmps45
    go_wp2_with fail
    refine (hF _).mono ?_
    rintro e w' ⟨rfl, hb⟩
    go_wp2
    go_ret
    exact ⟨rfl, (hB _ _).trans (hb.mono (hB _ _).size)⟩
  · rw [if_neg hk]
    have e5 : (v.kind != 5) = true := by simpa using hk
    clear hF
    go_enter Tryz.func45, Tryz.ntmps45
    go_wp2
    go_ret
    exact ⟨rfl, hB _ _⟩

/-- ahead of which field a new one is put. -/
def aboveI (name : ByteArray) (fs : List (ByteArray × V)) : Int := if whereI (isAbove name) fs < 0 then fs.length else whereI (isAbove name) fs
theorem above_any (n : Nat) (fs : List Fl) (f : Value) (name : ByteArray) (w : World) (f2 : RowAt (fun _ => True) w 44 6 f fs.length (encFs fs)) (f3 : ∀ e ∈ fs, Lies n w e.v e.l e.f) :
    Calls Tryz.prog 57 #[f, .string name] w fun e w' => e = .returned (.int .i64 (aboveI name (fs.map Fl.pair))) ∧ Below w.heap.size w w' := by
  have hB : ∀ (o1 : Obj), Below w.heap.size w (w.alloc o1) := fun o1 => (Below.refl _ _).alloc (Nat.le_refl _) _
  have hF : Calls Tryz.prog 50 #[f, .func (.func 72) #[] #[.pointer (some ⟨w.heap.size, 0, none⟩)]] (w.alloc (.cells #[.string name] 9)) fun e w' => e = .returned (.int .i64 (whereI (isAbove name) (fs.map Fl.pair))) ∧ Below (w.alloc (.cells #[.string name] 9)).heap.size (w.alloc (.cells #[.string name] 9)) w' := by
    have hW := hB (.cells #[.string name] 9)
    have hm : ∀ b, True → b < w.heap.size → True ∧ (w.alloc (.cells #[.string name] 9)).heap[b]? = w.heap[b]? := fun b _ h => ⟨trivial, hW.block b h⟩
    exact IndexFunc_any 72 _ entersAbove1 (isAbove name) n fs f _ (f2.move hm) (fun e he => Lies.below hW (f3 e he)) fun x hx W hWW => above1_any x.name name x.v x.l x.f _ _ W (Rep.shape (f3 x hx)) (by rw [hWW.cell (by simp)]; simp)
  obtain ⟨a3, c3, rfl⟩ := f2.slice
  have hl := f2.2.1
  have hr := whereI_range (isAbove name) (fs.map Fl.pair)
  have ha : aboveI name (fs.map Fl.pair) = if whereI (isAbove name) (fs.map Fl.pair) < 0 then (fs.length : Int) else whereI (isAbove name) (fs.map Fl.pair) := by unfold aboveI; simp
  rw [ha]
  clear f2 f3 ha
  generalize whereI (isAbove name) (fs.map Fl.pair) = r at *
  by_cases h0 : r < 0
  · rw [if_pos h0]
    go_enter Tryz.func57, Tryz.ntmps57
    go_wp2_with fail
    refine hF.mono ?_
    rintro e w' ⟨rfl, hb⟩
    go_wp2
    go_ret
    exact ⟨rfl, (hB _).trans (hb.mono (hB _).size)⟩
  · rw [if_neg h0]
    go_enter Tryz.func57, Tryz.ntmps57
    go_wp2_with fail
    refine hF.mono ?_
    rintro e w' ⟨rfl, hb⟩
    go_wp2
    go_ret
    exact ⟨rfl, (hB _).trans (hb.mono (hB _).size)⟩
end Go.Proofs.YtgcccihnlecpnaaGreatDoor
