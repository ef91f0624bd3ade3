/-
  Maps whose keys are numbers of 64 bits, told as functions of the key. No conditions beyond those stated.
-/
import Derived.Test.YtjihfbahcebljaaDoorProg
import Derived.Maps.RangeWalk
import Derived.Maps.OwnOps
import Derived.Maps.OwnSet
import Derived.WalkArith
namespace Go.Proofs.YtjihfbahcebljaaDoor
open Go.RowKit
open Go.Maps (Keyed)

/-- what an element is, as it stands. -/
def raw (v : Value) : Option (DataW Value × List MemPlace) := some (.held v, [])
theorem lawK : Keyed Tryd.prog 2 := Go.Maps.int_keyed Tryd.underlying2
theorem keyK {i : Int} (h : (Lit.int .i64 i).wf = true) : keyOf Tryd.prog 2 (.int .i64 i) = some (.int .i64 i) := Go.Maps.keyOf_int_mk Tryd.underlying2 h
theorem wfK {i : Int} (h1 : -9223372036854775808 ≤ i) (h2 : i ≤ 9223372036854775807) : (Lit.int .i64 i).wf = true := WalkArith.wf_i64 (by omega)

section
variable {α : Type}
/-- what a map as it was read holds at each key. -/
def Holds (mk : α → Value) (D : DataW Value) (g : Int → Option α) : Prop := ∀ i, Maps.has D (.int .i64 i) = (g i).isSome ∧ ∀ a, g i = some a → ∀ z, D.atKey (.int .i64 i) z = .held (mk a)
/-- a map lies in a block: what it holds at each key, how many keys there are. -/
def MapOn (mk : α → Value) (W : World) (b n : Nat) (g : Int → Option α) (c : Nat) : Prop :=
  ∃ D : DataW Value, W.ownsMap Tryd.prog 2 raw b n D ∧ Maps.size D = c ∧ Holds mk D g
/-- it is gone through; which keys are still to come. -/
def RangeOn (mk : α → Value) (W : World) (b r n : Nat) (g : Int → Option α) (c : Nat) (left : Int → Bool) (cnt : Nat) : Prop :=
  ∃ (D : DataW Value) (L : Lit → Bool), W.ranges Tryd.prog 2 raw b r n D L cnt ∧ Maps.size D = c ∧ Holds mk D g ∧ ∀ i, L (.int .i64 i) = left i

variable {mk : α → Value} {w w' : World} {b r n c cnt : Nat} {g : Int → Option α} {left : Int → Bool}

theorem MapOn.made (w : World) : MapOn mk (w.alloc (.map #[] 0)) w.heap.size 0 (fun _ => none) 0 :=
  ⟨.map [], World.ownsMap_made _ _ _ _, rfl, fun _ => ⟨rfl, fun _ h => by cases h⟩⟩
theorem MapOn.kept {row : Option Nat} (h : MapOn mk w b n g c) (hg : w.grownBy w' row) (hne : some b ≠ row) : MapOn mk w' b n g c := by
  obtain ⟨D, h1, h2⟩ := h
  exact ⟨D, h1.kept hg hne, h2⟩
theorem MapOn.le {n' : Nat} (h : MapOn mk w b n g c) (hn : n ≤ n') : MapOn mk w b n' g c := by
  obtain ⟨D, h1, h2⟩ := h
  exact ⟨D, h1.mono hn, h2⟩
theorem MapOn.lt (h : MapOn mk w b n g c) : b < w.heap.size := by
  obtain ⟨D, h1, _⟩ := h
  exact h1.lt
theorem MapOn.block (h : MapOn mk w b n g c) : ∃ es k, w.heap[b]? = some (.map es k) := by
  obtain ⟨D, ⟨es, k, h1, _⟩, _⟩ := h
  exact ⟨es, k, h1⟩
/-- it stays while its block stays. -/
theorem MapOn.stay (h : MapOn mk w b n g c) (hg : w'.heap[b]? = w.heap[b]?) : MapOn mk w' b n g c := by
  obtain ⟨D, ⟨es, k, h1, h2⟩, h3⟩ := h
  exact ⟨D, ⟨es, k, hg.trans h1, h2⟩, h3⟩
theorem MapOn.alter {g' : Int → Option α} {c' : Nat} (h : MapOn mk w b n g c) (hg : ∀ i, g i = g' i) (hc : c = c') : MapOn mk w b n g' c' := by
  obtain rfl : g = g' := funext hg
  subst hc
  exact h
theorem RangeOn.on (h : RangeOn mk w b r n g c left cnt) : MapOn mk w b n g c := by
  obtain ⟨D, L, h1, h2, h3, _⟩ := h
  exact ⟨D, h1.owns, h2, h3⟩
theorem RangeOn.kept {row : Option Nat} (h : RangeOn mk w b r n g c left cnt) (hg : w.grownBy w' row) (hne : some b ≠ row) (hne2 : some r ≠ row) : RangeOn mk w' b r n g c left cnt := by
  obtain ⟨D, L, h1, h2⟩ := h
  exact ⟨D, L, h1.kept hg hne hne2, h2⟩
theorem RangeOn.left_eq (h : RangeOn mk w b r n g c left cnt) : w.rangeLeft b r = cnt := by
  obtain ⟨D, L, h1, _⟩ := h
  exact h1.left_eq
theorem RangeOn.lt (h : RangeOn mk w b r n g c left cnt) : r < w.heap.size := by
  obtain ⟨D, L, h1, _⟩ := h
  exact h1.lt
theorem RangeOn.ne (h : RangeOn mk w b r n g c left cnt) : r ≠ b := by
  obtain ⟨D, L, h1, _⟩ := h
  exact h1.ne

theorem isKey (i : Int) : WideAt.IsKeyLit (.int .i64 i) := trivial
theorem key_ne {i j : Int} (h : j ≠ i) : (Lit.int .i64 j) ≠ .int .i64 i := fun e => h (by cases e; rfl)
theorem Holds.at {D : DataW Value} (h : Holds mk D g) {i : Int} {u : Value} {z : DataW Value} (hr : raw u = some (D.atKey (.int .i64 i) z, [])) {a : α} (ha : g i = some a) : u = mk a := by
  rw [(h i).2 a ha z] at hr
  simpa [raw] using hr
theorem Holds.out {D : DataW Value} (h : Holds mk D g) {i : Int} {u z : Value} (hr : raw u = some (D.atKey (.int .i64 i) (.held z), [])) (ha : g i = none) : u = z := by
  rw [Maps.atKey_of_not_has (by rw [(h i).1, ha]; rfl)] at hr
  simpa [raw] using hr

section
variable {ops : Array Oper} {rest : List Oper} {o : Oper} {a : Act} {Q : Exit → Act → World → Prop}
theorem MapOn.look_run {e t : TypeId} (hown : MapOn mk w b n g c) (ht : Tryd.prog.underlying t = some (.map 2 e)) {z : Value} (hz : (zeroValue e).run Tryd.prog w = .ok z w) {i : Int} (hwf : (Lit.int .i64 i).wf = true) :
    (Instr.lookup t (.map (some b)) (.int .i64 i) false).run Tryd.prog w = .ok (match g i with | some u => mk u | none => z) w := by
  obtain ⟨D, h1, h2, h3⟩ := hown
  obtain ⟨v, ps, hrun, hv⟩ := h1.lookup lawK ht hz (show raw z = some (.held z, []) from rfl) (keyK hwf)
  have hps : ps = [] := by simp only [raw, Option.some.injEq, Prod.mk.injEq] at hv; exact hv.2.symm
  subst hps
  rw [hrun]
  cases hgi : g i with
  | none => rw [h3.out hv hgi]
  | some u => rw [h3.at hv hgi]
/-- 'v, ok := m[k]'. -/
theorem wpList_mlook_ok (hg : o.guard = none) (m x : Operand) (t : TypeId) (hop : o.op = Op.lookup t m x true) (e : TypeId) (ht : Tryd.prog.underlying t = some (.map 2 e)) {z : Value} (hz : (zeroValue e).run Tryd.prog w = .ok z w)
    (b n : Nat) (g : Int → Option α) (c : Nat) (hm : a.eval m = .map (some b)) (hown : MapOn mk w b n g c) (i : Int) (hwf : (Lit.int .i64 i).wf = true) (hx : a.eval x = .int .i64 i)
    (hK1 : ∀ u, g i = some u → wpList Tryd.prog ops Q rest (a.put o.dst (.tuple #[mk u, .bool true])) w) (hK0 : g i = none → wpList Tryd.prog ops Q rest (a.put o.dst (.tuple #[z, .bool false])) w) :
    wpList Tryd.prog ops Q (o :: rest) a w := by
  obtain ⟨D, h1, h2, h3⟩ := hown
  refine wpList_lookup_own_ok w hg m x t hop 2 e lawK ht raw hz (.held z) [] rfl b n D hm h1 (.int .i64 i) (.int .i64 i) hx (keyK hwf) ?_
  intro v ps hv
  rw [(h3 i).1]
  have hps : ps = [] := by simp only [raw, Option.some.injEq, Prod.mk.injEq] at hv; exact hv.2.symm
  subst hps
  cases hgi : g i with
  | none => rw [h3.out hv hgi]; exact hK0 hgi
  | some u => rw [h3.at hv hgi]; exact hK1 u hgi
/-- 'm[k]'. -/
theorem wpList_mlook (hg : o.guard = none) (m x : Operand) (t : TypeId) (hop : o.op = Op.lookup t m x false) (e : TypeId) (ht : Tryd.prog.underlying t = some (.map 2 e)) {z : Value} (hz : (zeroValue e).run Tryd.prog w = .ok z w)
    (b n : Nat) (g : Int → Option α) (c : Nat) (hm : a.eval m = .map (some b)) (hown : MapOn mk w b n g c) (i : Int) (hwf : (Lit.int .i64 i).wf = true) (hx : a.eval x = .int .i64 i)
    (hK1 : ∀ u, g i = some u → wpList Tryd.prog ops Q rest (a.put o.dst (mk u)) w) (hK0 : g i = none → wpList Tryd.prog ops Q rest (a.put o.dst z) w) :
    wpList Tryd.prog ops Q (o :: rest) a w := by
  obtain ⟨D, h1, h2, h3⟩ := hown
  refine wpList_plain hg fun K' hK' => ?_
  obtain ⟨v, ps, hrun, hv⟩ := h1.lookup lawK ht hz (show raw z = some (.held z, []) from rfl) (keyK hwf)
  have hps : ps = [] := by simp only [raw, Option.some.injEq, Prod.mk.injEq] at hv; exact hv.2.symm
  subst hps
  unfold Oper.wp
  simp [execOp, hop, hm, hx, hrun, Result.andThen]
  cases hgi : g i with
  | none => rw [h3.out hv hgi]; exact hK' _ _ (hK0 hgi)
  | some u => rw [h3.at hv hgi]; exact hK' _ _ (hK1 u hgi)
/-- 'v, ok := m[k]', where it is known whether the key is there. -/
theorem wpList_mlook_ok_some (hg : o.guard = none) (m x : Operand) (t : TypeId) (hop : o.op = Op.lookup t m x true) (e : TypeId) (ht : Tryd.prog.underlying t = some (.map 2 e)) {z : Value} (hz : (zeroValue e).run Tryd.prog w = .ok z w)
    (b n : Nat) (g : Int → Option α) (c : Nat) (hm : a.eval m = .map (some b)) (hown : MapOn mk w b n g c) (i : Int) (hwf : (Lit.int .i64 i).wf = true) (hx : a.eval x = .int .i64 i) (u : α) (hu : g i = some u)
    (hK1 : wpList Tryd.prog ops Q rest (a.put o.dst (.tuple #[mk u, .bool true])) w) : wpList Tryd.prog ops Q (o :: rest) a w :=
  wpList_mlook_ok hg m x t hop e ht hz b n g c hm hown i hwf hx (fun u' h => by rw [hu] at h; cases h; exact hK1) (fun h => by rw [hu] at h; cases h)
theorem wpList_mlook_ok_none (hg : o.guard = none) (m x : Operand) (t : TypeId) (hop : o.op = Op.lookup t m x true) (e : TypeId) (ht : Tryd.prog.underlying t = some (.map 2 e)) {z : Value} (hz : (zeroValue e).run Tryd.prog w = .ok z w)
    (b n : Nat) (g : Int → Option α) (c : Nat) (hm : a.eval m = .map (some b)) (hown : MapOn mk w b n g c) (i : Int) (hwf : (Lit.int .i64 i).wf = true) (hx : a.eval x = .int .i64 i) (hu : g i = none)
    (hK0 : wpList Tryd.prog ops Q rest (a.put o.dst (.tuple #[z, .bool false])) w) : wpList Tryd.prog ops Q (o :: rest) a w :=
  wpList_mlook_ok hg m x t hop e ht hz b n g c hm hown i hwf hx (fun u' h => by rw [hu] at h; cases h) (fun _ => hK0)
theorem wpList_mlook_some (hg : o.guard = none) (m x : Operand) (t : TypeId) (hop : o.op = Op.lookup t m x false) (e : TypeId) (ht : Tryd.prog.underlying t = some (.map 2 e)) {z : Value} (hz : (zeroValue e).run Tryd.prog w = .ok z w)
    (b n : Nat) (g : Int → Option α) (c : Nat) (hm : a.eval m = .map (some b)) (hown : MapOn mk w b n g c) (i : Int) (hwf : (Lit.int .i64 i).wf = true) (hx : a.eval x = .int .i64 i) (u : α) (hu : g i = some u)
    (hK1 : wpList Tryd.prog ops Q rest (a.put o.dst (mk u)) w) : wpList Tryd.prog ops Q (o :: rest) a w :=
  wpList_mlook hg m x t hop e ht hz b n g c hm hown i hwf hx (fun u' h => by rw [hu] at h; cases h; exact hK1) (fun h => by rw [hu] at h; cases h)
theorem wpList_mlook_none (hg : o.guard = none) (m x : Operand) (t : TypeId) (hop : o.op = Op.lookup t m x false) (e : TypeId) (ht : Tryd.prog.underlying t = some (.map 2 e)) {z : Value} (hz : (zeroValue e).run Tryd.prog w = .ok z w)
    (b n : Nat) (g : Int → Option α) (c : Nat) (hm : a.eval m = .map (some b)) (hown : MapOn mk w b n g c) (i : Int) (hwf : (Lit.int .i64 i).wf = true) (hx : a.eval x = .int .i64 i) (hu : g i = none)
    (hK0 : wpList Tryd.prog ops Q rest (a.put o.dst z) w) : wpList Tryd.prog ops Q (o :: rest) a w :=
  wpList_mlook hg m x t hop e ht hz b n g c hm hown i hwf hx (fun u' h => by rw [hu] at h; cases h) (fun _ => hK0)
/-- 'm[k] = v'. -/
theorem wpList_mput (hg : o.guard = none) (m x v : Operand) (t : TypeId) (hop : o.op = Op.mapUpdate t m x v) (e : TypeId) (ht : Tryd.prog.underlying t = some (.map 2 e))
    (b n : Nat) (g : Int → Option α) (c : Nat) (hm : a.eval m = .map (some b)) (hown : MapOn mk w b n g c) (hn : n < maxLen) (i : Int) (hwf : (Lit.int .i64 i).wf = true) (hx : a.eval x = .int .i64 i) (u : α) (hv : a.eval v = mk u)
    (hK : ∀ w', MapOn mk w' b (n + 1) (fun j => if j = i then some u else g j) (if (g i).isSome then c else c + 1) → w.grownBy w' (some b) → wpList Tryd.prog ops Q rest (a.put o.dst undef) w') :
    wpList Tryd.prog ops Q (o :: rest) a w := by
  obtain ⟨D, h1, h2, h3⟩ := hown
  refine wpList_mapUpdate_own w hg m x v t hop 2 e lawK ht raw b n D hm h1 hn (.int .i64 i) (mk u) (.int .i64 i) hx hv (keyK hwf) (.held (mk u)) [] rfl ?_
  intro w1 o1 g1
  refine hK w1 ⟨_, o1, ?_, fun j => ?_⟩ g1
  · rw [Maps.size_put (h1.tidy lawK), (h3 i).1, h2]
  · dsimp only
    by_cases hj : j = i
    · subst hj
      rw [if_pos rfl]
      refine ⟨Maps.has_put_same h1.isMap (isKey _) _, fun a' ha z => ?_⟩
      cases ha
      exact Maps.atKey_put_same h1.isMap (isKey _) _ _
    · rw [if_neg hj, Maps.has_put_other (key_ne hj)]
      refine ⟨(h3 j).1, fun a' ha z => ?_⟩
      rw [Maps.atKey_put_other (key_ne hj)]
      exact (h3 j).2 a' ha z
/-- 'delete(m, k)'. -/
theorem wpList_mdel (hg : o.guard = none) (m x : Operand) (t : TypeId) (hop : o.op = Op.call { callee := Callee.builtin Builtin.delete, args := #[m, x], argTypes := #[t, 2] }) (e : TypeId) (ht : Tryd.prog.underlying t = some (.map 2 e))
    (b n : Nat) (g : Int → Option α) (c : Nat) (hm : a.eval m = .map (some b)) (hown : MapOn mk w b n g c) (i : Int) (hwf : (Lit.int .i64 i).wf = true) (hx : a.eval x = .int .i64 i)
    (hK : ∀ w', MapOn mk w' b n (fun j => if j = i then none else g j) (c - if (g i).isSome then 1 else 0) → w.grownBy w' (some b) → wpList Tryd.prog ops Q rest (a.put o.dst (.tuple #[])) w') :
    wpList Tryd.prog ops Q (o :: rest) a w := by
  obtain ⟨D, h1, h2, h3⟩ := hown
  refine wpList_delete_own w hg m x t 2 hop e lawK ht raw b n D hm h1 (.int .i64 i) (.int .i64 i) hx (keyK hwf) ?_
  intro w1 o1 g1
  refine hK w1 ⟨_, o1, ?_, fun j => ?_⟩ g1.grown
  · have := Maps.size_del (k := .int .i64 i) (h1.tidy lawK)
    rw [(h3 i).1, h2] at this
    omega
  · dsimp only
    by_cases hj : j = i
    · subst hj
      rw [if_pos rfl]
      exact ⟨Maps.has_del_same, fun a' ha => by cases ha⟩
    · rw [if_neg hj, Maps.has_del_other (key_ne hj)]
      refine ⟨(h3 j).1, fun a' ha z => ?_⟩
      rw [Maps.atKey_del_other (key_ne hj)]
      exact (h3 j).2 a' ha z
/-- 'len(m)'. -/
theorem wpList_mlen (hg : o.guard = none) (m : Operand) (t : TypeId) (hop : o.op = Op.call { callee := Callee.builtin Builtin.len, args := #[m], argTypes := #[t] }) (e : TypeId) (ht : Tryd.prog.underlying t = some (.map 2 e))
    (b n : Nat) (g : Int → Option α) (c : Nat) (hm : a.eval m = .map (some b)) (hown : MapOn mk w b n g c) (hK : wpList Tryd.prog ops Q rest (a.put o.dst (.int .i64 c)) w) :
    wpList Tryd.prog ops Q (o :: rest) a w := by
  obtain ⟨D, h1, h2, h3⟩ := hown
  subst h2
  exact wpList_len_own w hg m t hop 2 e ht raw b n D hm h1 hK
/-- 'range m'. -/
theorem wpList_mrange (hg : o.guard = none) (m : Operand) (t : TypeId) (hop : o.op = Op.range t m) (e : TypeId) (ht : Tryd.prog.underlying t = some (.map 2 e)) (b n : Nat) (g : Int → Option α) (c : Nat)
    (hm : a.eval m = .map (some b)) (hown : MapOn mk w b n g c)
    (hK : ∀ w', RangeOn mk w' b w.heap.size n g c (fun i => (g i).isSome) c → w.grownBy w' none → w'.heap.size = w.heap.size + 1 → wpList Tryd.prog ops Q rest (a.put o.dst (.pointer (some ⟨w.heap.size, 0, none⟩))) w') :
    wpList Tryd.prog ops Q (o :: rest) a w := by
  obtain ⟨D, h1, h2, h3⟩ := hown
  refine wpList_range_own w hg m t hop 2 e lawK ht raw b n D hm h1 ?_
  intro w1 r1 g1 z1
  exact hK w1 ⟨D, _, by rw [← h2]; exact r1, h2, h3, fun i => (h3 i).1⟩ g1 z1
/-- the next one. -/
theorem wpList_mnext (hg : o.guard = none) (it : Operand) (hop : o.op = Op.next it false) (b r n : Nat) (g : Int → Option α) (c : Nat) (left : Int → Bool) (cnt : Nat) (hit : a.eval it = .pointer (some ⟨r, 0, none⟩))
    (h : RangeOn mk w b r n g c left cnt) (hDone : (∀ i, left i = false) → wpList Tryd.prog ops Q rest (a.put o.dst (.tuple #[.bool false])) w)
    (hMore : ∀ (i : Int) (u : α) (w' : World) (cnt' : Nat), (Lit.int .i64 i).wf = true → g i = some u → left i = true → RangeOn mk w' b r n g c (fun j => left j && !(j == i)) cnt' → cnt' < cnt → w.grownBy w' (some r) → w'.heap.size = w.heap.size →
      (Instr.entry (.pointer (some ⟨r, 0, none⟩))).run Tryd.prog w' = .ok (.tuple #[.int .i64 i, mk u]) w' → wpList Tryd.prog ops Q rest (a.put o.dst (.tuple #[.bool true, .int .i64 i, mk u])) w') :
    wpList Tryd.prog ops Q (o :: rest) a w := by
  obtain ⟨D, L, h1, h2, h3, h4⟩ := h
  refine wpList_plain hg fun K' hK' => ?_
  unfold Oper.wp
  rcases h1.next lawK o.type with ⟨h0, hl, hrun⟩ | ⟨key, v, kl, y, w', cnt', hkey, hlk, hv, hat, hrun, hrg, hlt, hgr, hsz, hen⟩
  · simp [execOp, hop, hit, hrun, Result.andThen]
    exact hK' _ _ (hDone fun i => by rw [← h4, hl])
  · obtain ⟨x, rfl, rfl, hwx⟩ := Maps.keyOf_int_inv Tryd.underlying2 hkey
    have hh := Maps.has_true_of_atKey hat
    rw [(h3 x).1] at hh
    obtain ⟨u, hu⟩ := Option.isSome_iff_exists.1 hh
    have hvu : v = mk u := by
      have e1 := (h3 x).2 u hu .nil
      rw [hat] at e1
      simp only [raw, Option.some.injEq] at hv
      rw [← hv] at e1
      simpa using e1
    subst hvu
    simp [execOp, hop, hit, hrun, Result.andThen]
    refine hK' _ _ (hMore x u w' cnt' hwx hu (by rw [← h4, hlk]) ⟨D, _, hrg, h2, h3, fun j => ?_⟩ hlt hgr hsz hen)
    show (L (.int .i64 j) && !(Lit.int .i64 j).sameKey (.int .i64 x)) = _
    rw [h4]
    simp [Lit.sameKey]
    rfl
end
end
end Go.Proofs.YtjihfbahcebljaaDoor
