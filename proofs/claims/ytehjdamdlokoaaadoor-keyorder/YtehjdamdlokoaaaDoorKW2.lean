/-
  The program's writer of keys: lists, objects, values. Conditions: as stated.
-/
import Derived.Test.YtehjdamdlokoaaaDoorKW1
namespace Go.Proofs.YtehjdamdlokoaaaDoor
open Go.RowKit

/-- a value that has a key. -/
def KFit : Nat → V → Prop
  | 0, v => 0 ≤ v.kind ∧ v.kind ≤ 5 ∧ I64 v.num ∧ (v.kind = 1 → v.num = 0 ∨ v.num = 1) ∧ v.text.size ≤ 1000000
  | n + 1, v => (0 ≤ v.kind ∧ v.kind ≤ 5 ∧ I64 v.num ∧ (v.kind = 1 → v.num = 0 ∨ v.num = 1) ∧ v.text.size ≤ 1000000) ∧ (∀ x ∈ v.list, KFit n x) ∧ ∀ p ∈ v.fields, p.1.size ≤ 1000000 ∧ KFit n p.2
theorem KFit.here {n : Nat} {v : V} (h : KFit n v) : 0 ≤ v.kind ∧ v.kind ≤ 5 ∧ I64 v.num ∧ (v.kind = 1 → v.num = 0 ∨ v.num = 1) ∧ v.text.size ≤ 1000000 := by
  cases n with
  | zero => exact h
  | succ n => exact h.1
/-- the same, the laid block's number as the walk writes it. -/
theorem append_bytes2 {ops : Array Oper} {rest : List Oper} {o : Oper} {a : Act} {Q : Exit → Act → World → Prop} (hgd : o.guard = none) (s x : Operand)
    (ho : o.op = .call { callee := .builtin .append, args := #[s, x], argTypes := #[22, 22] })
    {w0 w : World} {sv : Value} {l : List UInt8} (h : Ow w0 sv l w) (cs : List UInt8) (arr : Array Value) (n : Nat) (hn : cs.length = n) (h0 : 0 < n) (harr : arr.toList = cellsB cs) (hs : a.eval s = sv) (H : Nat) (hx : a.eval x = .slice (some ⟨H, 0, none⟩) n n) (hH : w.heap.size = H) (hl : l.length + n ≤ 1000000000)
    (k : ∀ sv' w', Ow w0 sv' (l ++ cs) w' → Kp sv w sv' w' → wpList Tryd.prog ops Q rest (a.put o.dst sv') w') : wpList Tryd.prog ops Q (o :: rest) a (w.alloc (.cells arr 5)) := by
  subst hH
  exact append_bytes hgd s x ho h cs arr n hn h0 harr hs hx hl k

/-- put, so deep. -/
def PutAt (n : Nat) : Prop := ∀ (w0 : World) (v : V) (l f : Value), Lies n w0 v l f → KFit n v → ∀ (s : Value) (out : List UInt8) (w : World), Ow w0 s out w → out.length + (putV (n + 1) v).length ≤ 1000000000 →
  Calls Tryd.prog 21 #[s, .agg #[.int .i64 v.kind, .int .i64 v.num, .string v.text, l, f]] w (Wrote w0 s w out (putV (n + 1) v))

set_option maxRecDepth 100000 in
set_option maxHeartbeats 4000000 in
theorem putList_any (n : Nat) (w0 : World) (xs : List El) (ih : xs ≠ [] → PutAt n) (sl : Value) (hrow : RowAt (fun _ => True) w0 28 5 sl xs.length (encEs xs)) (hl : ∀ e ∈ xs, Lies n w0 e.v e.l e.f) (hf : ∀ e ∈ xs, KFit n e.v)
    (s : Value) (out : List UInt8) (w : World) (h : Ow w0 s out w) (vs : List V) (hvs : vs = xs.map El.v) (hlen : out.length + (vs.flatMap (putV (n + 1)) ++ [0]).length ≤ 1000000000) :
    Calls Tryd.prog 33 #[s, sl] w (Wrote w0 s w out (vs.flatMap (putV (n + 1)) ++ [0])) := by
  obtain ⟨aa, ca, rfl⟩ := hrow.slice
  have na := hrow.2.1
  rw [List.length_append] at hlen
  have HH := (show Hid _ from And.intro hrow (And.intro hl (And.intro hf (And.intro hvs (And.intro hlen h)))))
  have hI := (show Hid _ from And.intro ih ih)
  clear hrow hl hf hvs hlen ih h
  go_enter Tryd.func33, Tryd.ntmps33
  go_wp2_with fail
  go_loopg [0, 6, 9] xs.length (fun gg s0 _ i wr => ∃ k : Nat, k ≤ xs.length ∧ xs.length - k ≤ gg ∧ i = .int .i64 k ∧ Aside (Ow w0 s0 (out ++ (vs.take k).flatMap (putV (n + 1))) wr ∧ Kp s w s0 wr))
  case atStart => exact ⟨0, Nat.zero_le _, by omega, rfl, by simpa using HH.out.2.2.2.2.2, Kp.refl _ _⟩
  case round =>
    obtain ⟨k, hk, hgg, rfl, A⟩ := hrel
    by_cases hlt : k < xs.length
    · obtain ⟨hrow, hl, hf, hvs, hlen, h⟩ := HH.out
      obtain ⟨b0, c', e1, hb0, _, hc1, hc2, _⟩ := hrow.cells (by omega)
      simp only [Value.slice.injEq, true_and] at e1
      obtain ⟨rfl, rfl⟩ := e1
      obtain ⟨⟨xv, xl, xf⟩, hx⟩ : ∃ x, xs[k]? = some x := ⟨_, List.getElem?_eq_getElem hlt⟩
      have OA := A.out.1
      obtain ⟨a0, a1, a2, a3, a4⟩ := (hrow.move fun c _ hl => ⟨trivial, OA.below.block c hl⟩).el hx
      have hlx : Lies n w0 xv xl xf := hl _ (List.mem_of_getElem? hx)
      have hfx : KFit n xv := hf _ (List.mem_of_getElem? hx)
      simp only at a0 a1 a2 a3 a4
      obtain ⟨al, cl, af, cf, rfl, rfl⟩ := hlx.slices
      have hvk : vs[k]? = some xv := by rw [hvs, List.getElem?_map, hx]; rfl
      have hst := flat_take (putV (n + 1)) hvk
      have hsl := flat_take_len (putV (n + 1)) vs (k + 1)
      rw [hst, List.length_append] at hsl
      obtain ⟨O, hO⟩ : ∃ O, O = Obj.cells #[.int .i64 xv.kind, .int .i64 xv.num, .string xv.text, .slice al xv.list.length cl, .slice af xv.fields.length cf] 28 := ⟨_, rfl⟩
      have hBa : Below wr.heap.size wr (wr.alloc O) := (Below.refl _ _).alloc (Nat.le_refl _) _
      have hcall := hI.out.1 (fun e => by rw [e] at hlt; exact absurd hlt (Nat.not_lt_zero _)) w0 xv _ _ hlx hfx _ _ (wr.alloc O) (OA.same hBa) (by rw [List.length_append]; simp only [List.length_cons, List.length_nil] at hlen; omega)
      rw [hO] at hcall
      have zk : (k : Int) < (xs.length : Int) := by omega
      have hb0r : b0 < wr.heap.size := lt_of_cell a0
      have H2 := (show Hid _ from And.intro hst (And.intro hO hBa))
      clear hrow hl hf hvs hlen h OA hlx hfx hvk hst hsl hO hBa hx
      go_wp2_with fail
      refine hcall.mono ?_
      rintro e w2 ⟨s2, rfl, h2, k2⟩
      obtain ⟨hst, hO, hBa⟩ := H2.out
      rw [← hO] at k2
      have k3 := (A.out.2.trans (Kp.of_below hBa)).trans k2
      have H3 := (show Hid _ from And.intro h2 k3)
      clear hcall h2 k2 k3 hst hO hBa
      go_wp2_with fail
      go_roundg (xs.length - (k + 1))
      case measure => omega
      case rel =>
        refine ⟨k + 1, by omega, by omega, by go_num, ?_, H3.out.2⟩
        rw [H2.out.1, ← List.append_assoc]
        exact H3.out.1
    · have zk : ¬ (k : Int) < (xs.length : Int) := by omega
      have HT : Hid (vs.take k = vs) := List.take_of_length_le (by rw [HH.out.2.2.2.1]; simp; omega)
      have HB1 : Hid (out.length + ((vs.take k).flatMap (putV (n + 1))).length + 1 ≤ 1000000000) := by
        have := HH.out.2.2.2.2.1
        simp only [List.length_cons, List.length_nil] at this
        rw [HT.out]
        show _ ≤ _
        omega
      go_wp2_with (first | (at_builtin; refine append_bytes rfl (.tmp 17) (.tmp 18) rfl A.out.1 [0] _ 1 rfl (by decide) rfl rfl rfl (by have := HB1.out; rw [List.length_append]; omega) ?_; intro s1 u1 h1 k1; have H1 := (show Hid _ from And.intro h1 (A.out.2.trans k1)); clear h1 k1))
      go_ret
      refine ⟨s1, rfl, ?_, H1.out.2⟩
      have := H1.out.1
      rw [HT.out] at this
      simpa [List.append_assoc] using this

set_option maxRecDepth 100000 in
set_option maxHeartbeats 4000000 in
theorem putFields_any (n : Nat) (w0 : World) (xs : List Fl) (ih : xs ≠ [] → PutAt n) (sl : Value) (hrow : RowAt (fun _ => True) w0 50 6 sl xs.length (encFs xs)) (hl : ∀ e ∈ xs, Lies n w0 e.v e.l e.f) (hf : ∀ e ∈ xs, e.name.size ≤ 1000000 ∧ KFit n e.v)
    (s : Value) (out : List UInt8) (w : World) (h : Ow w0 s out w) (vs : List (ByteArray × V)) (hvs : vs = xs.map Fl.pair) (hlen : out.length + (vs.flatMap (fieldL (putV (n + 1))) ++ [0]).length ≤ 1000000000) :
    Calls Tryd.prog 34 #[s, sl] w (Wrote w0 s w out (vs.flatMap (fieldL (putV (n + 1))) ++ [0])) := by
  obtain ⟨aa, ca, rfl⟩ := hrow.slice
  have na := hrow.2.1
  rw [List.length_append] at hlen
  have HH := (show Hid _ from And.intro hrow (And.intro hl (And.intro hf (And.intro hvs (And.intro hlen h)))))
  have hI := (show Hid _ from And.intro ih ih)
  clear hrow hl hf hvs hlen ih h
  go_enter Tryd.func34, Tryd.ntmps34
  go_wp2_with fail
  go_loopg [0, 6, 9] xs.length (fun gg s0 _ i wr => ∃ k : Nat, k ≤ xs.length ∧ xs.length - k ≤ gg ∧ i = .int .i64 k ∧ Aside (Ow w0 s0 (out ++ (vs.take k).flatMap (fieldL (putV (n + 1)))) wr ∧ Kp s w s0 wr))
  case atStart => exact ⟨0, Nat.zero_le _, by omega, rfl, by simpa using HH.out.2.2.2.2.2, Kp.refl _ _⟩
  case round =>
    obtain ⟨k, hk, hgg, rfl, A⟩ := hrel
    by_cases hlt : k < xs.length
    · obtain ⟨hrow, hl, hf, hvs, hlen, h⟩ := HH.out
      obtain ⟨b0, c', e1, hb0, _, hc1, hc2, _⟩ := hrow.cells (by omega)
      simp only [Value.slice.injEq, true_and] at e1
      obtain ⟨rfl, rfl⟩ := e1
      obtain ⟨⟨xn, xv, xl, xf⟩, hx⟩ : ∃ x, xs[k]? = some x := ⟨_, List.getElem?_eq_getElem hlt⟩
      have OA := A.out.1
      obtain ⟨a0, a1, a2, a3, a4, a5⟩ := (hrow.move fun c _ hl => ⟨trivial, OA.below.block c hl⟩).fl hx
      have hlx : Lies n w0 xv xl xf := hl _ (List.mem_of_getElem? hx)
      obtain ⟨hnx, hfx⟩ := hf _ (List.mem_of_getElem? hx)
      simp only at a0 a1 a2 a3 a4 a5 hnx hfx
      obtain ⟨al, cl, af, cf, rfl, rfl⟩ := hlx.slices
      have hvk : vs[k]? = some (xn, xv) := by rw [hvs, List.getElem?_map, hx]; rfl
      have hst := flat_take (fieldL (putV (n + 1))) hvk
      have hsl := flat_take_len (fieldL (putV (n + 1))) vs (k + 1)
      rw [hst, List.length_append] at hsl
      have hfl : (fieldL (putV (n + 1)) (xn, xv)).length = 1 + (writtenL xn.data.toList).length + (putV (n + 1) xv).length := by
        unfold fieldL
        simp only [List.length_cons, List.length_append]
        omega
      have hbd : out.length + ((vs.take k).flatMap (fieldL (putV (n + 1)))).length + (1 + (writtenL xn.data.toList).length + (putV (n + 1) xv).length) ≤ 1000000000 := by
        simp only [List.length_cons, List.length_nil] at hlen
        omega
      obtain ⟨O, hO⟩ : ∃ O, O = Obj.cells #[.string xn, .int .i64 xv.kind, .int .i64 xv.num, .string xv.text, .slice al xv.list.length cl, .slice af xv.fields.length cf] 50 := ⟨_, rfl⟩
      have hBa : Below wr.heap.size wr (wr.alloc O) := (Below.refl _ _).alloc (Nat.le_refl _) _
      have OB := OA.same hBa
      have hrO : (wr.alloc O).heap[wr.heap.size]? = some O := heap_alloc_new wr O
      have hne : ∀ q : Value, q.ownBlock = u0.ownBlock → q.ownBlock ≠ some wr.heap.size := fun q hq e => by
        have := (OA.own.lt _ (hq.symm.trans e)).2
        omega
      rw [hO] at OB hrO
      have zk : (k : Int) < (xs.length : Int) := by omega
      have hb0r : b0 < wr.heap.size := lt_of_cell a0
      have HOB := (show Hid _ from OB)
      have HR := (show Hid _ from And.intro hrO (hne u0 rfl))
      have HB1 := (show Hid _ from hbd)
      have H2 := (show Hid _ from And.intro hst (And.intro hO (And.intro hBa (And.intro hlx (And.intro hfx hnx)))))
      clear hrow hl hf hvs hlen h OA hlx hfx hvk hst hsl hO hBa hx hbd hfl OB hrO hne hnx
      go_wp2_with (first | (at_builtin; refine append_bytes2 rfl (.tmp 13) (.tmp 14) rfl HOB.out [1] _ 1 rfl (by decide) rfl rfl _ rfl (by simp) (by have := HB1.out; rw [List.length_append]; omega) ?_; intro s1 u1 h1 k1; have r1 := k1.row HR.out.1 HR.out.2; obtain ⟨p0, p1, p2, p3, p4, p5, pf⟩ := row6 r1; have hl1 := lt_of_heap r1; have H1 := (show Hid _ from And.intro h1 (And.intro k1 r1)); clear h1 k1 r1))
      refine (putText_any xn w0 u1 s1 _ H1.out.1 H2.out.2.2.2.2.2 (by have := HB1.out; rw [List.length_append, List.length_append]; simp only [List.length_cons, List.length_nil]; omega)).mono ?_
      rintro e u2 ⟨s2, rfl, h2, k2⟩
      obtain ⟨h1, k1, r1⟩ := H1.out
      have hne2 : ∀ {q : Value} {u : World}, Kp u0 (wr.alloc (.cells #[.string xn, .int .i64 xv.kind, .int .i64 xv.num, .string xv.text, .slice al xv.list.length cl, .slice af xv.fields.length cf] 50)) q u → q.ownBlock ≠ some wr.heap.size := by
        intro q u hq e
        rcases hq.own with e2 | ⟨g, e2, hg⟩
        · exact HR.out.2 (e2.symm.trans e)
        · rw [e2] at e
          have := Option.some.inj e
          simp at hg
          omega
      have k12 := k1.trans k2
      have r2 := k2.row r1 (hne2 k1)
      obtain ⟨q0, q1, q2, q3, q4, q5, qf⟩ := row6 r2
      have hl2 := lt_of_heap r2
      obtain ⟨hst, hO, hBa, hlx, hfx, hnx⟩ := H2.out
      have hcall := hI.out.1 (fun e => by rw [e] at hlt; exact absurd hlt (Nat.not_lt_zero _)) w0 xv _ _ hlx hfx _ _ u2 h2 (by have := HB1.out; rw [List.length_append, List.length_append, List.length_append]; simp only [List.length_cons, List.length_nil]; omega)
      have H3 := (show Hid _ from k12)
      clear p0 p1 p2 p3 p4 p5 pf h1 k1 r1 k12 k2 r2 hst hO hBa hlx hfx hnx h2 hne2
      go_wp2_with fail
      refine hcall.mono ?_
      rintro e u3 ⟨s3, rfl, h3, k3⟩
      have k13 := H3.out.trans k3
      rw [← H2.out.2.1] at k13
      have k4 := (A.out.2.trans (Kp.of_below H2.out.2.2.1)).trans k13
      have H4 := (show Hid _ from And.intro h3 k4)
      clear hcall h3 k3 k13 k4
      go_wp2_with fail
      go_roundg (xs.length - (k + 1))
      case measure => omega
      case rel =>
        refine ⟨k + 1, by omega, by omega, by go_num, ?_, H4.out.2⟩
        rw [H2.out.1]
        have := H4.out.1
        unfold fieldL at this ⊢
        simpa [List.append_assoc] using this
    · have zk : ¬ (k : Int) < (xs.length : Int) := by omega
      have HT : Hid (vs.take k = vs) := List.take_of_length_le (by rw [HH.out.2.2.2.1]; simp; omega)
      have HB1 : Hid (out.length + ((vs.take k).flatMap (fieldL (putV (n + 1)))).length + 1 ≤ 1000000000) := by
        have := HH.out.2.2.2.2.1
        simp only [List.length_cons, List.length_nil] at this
        rw [HT.out]
        show _ ≤ _
        omega
      go_wp2_with (first | (at_builtin; refine append_bytes rfl (.tmp 25) (.tmp 26) rfl A.out.1 [0] _ 1 rfl (by decide) rfl rfl rfl (by have := HB1.out; rw [List.length_append]; omega) ?_; intro s1 u1 h1 k1; have H1 := (show Hid _ from And.intro h1 (A.out.2.trans k1)); clear h1 k1))
      go_ret
      refine ⟨s1, rfl, ?_, H1.out.2⟩
      have := H1.out.1
      rw [HT.out] at this
      simpa [List.append_assoc] using this
end Go.Proofs.YtehjdamdlokoaaaDoor
