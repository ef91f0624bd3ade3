/-
  The law's at by its contract. Conditions: as stated (lists of at most ten values).
  The law's Find by its contract. Conditions: as stated (lists of at most ten values).
  Slices of texts that grow. No conditions beyond those stated.
  The law's Way by its contract. No conditions beyond those stated.
  package value's Set of a field that is there, by its contract. No conditions beyond those stated.
-/
import Derived.Test.YtgcccihnlecpnaaGreatDoorU4
import Derived.Test.YtgcccihnlecpnaaGreatDoorU8
import Derived.Test.YtgcccihnlecpnaaGreatDoorU9
import Derived.Deep.AppendLies
import Derived.Test.YtgcccihnlecpnaaGreatDoorU5
namespace Go.Proofs.YtgcccihnlecpnaaGreatDoor
open Go.RowKit

theorem digs_small : ∀ i : Fin 10, Lib.decDigits i.val = [UInt8.ofNat (48 + i.val)] := by
  intro i
  rw [Lib.decDigits, dif_pos i.isLt]
theorem itoa_small (j : Nat) (h : j < 10) : Lib.itoa (j : Int) = [UInt8.ofNat (48 + j)] := by
  unfold Lib.itoa
  rw [if_neg (by omega)]
  exact digs_small ⟨j, h⟩
theorem place_digit : ∀ i : Fin 10, Lib.atoiAll [UInt8.ofNat (48 + i.val)] = .ok (i.val : Int) := by decide +kernel
/-- a digit is the place that it tells. -/
theorem dig_place (j : Nat) (h : j < 10) (part : ByteArray) : part.data.toList = [UInt8.ofNat (48 + j)] ↔ placeOf part = some j := by
  constructor
  · intro e
    unfold placeOf
    rw [e, place_digit ⟨j, h⟩]
    show (if 0 ≤ (j : Int) ∧ Lib.itoa (j : Int) = _ then _ else _) = _
    rw [if_pos ⟨by omega, itoa_small j h⟩]
    rfl
  · intro e
    unfold placeOf at e
    split at e
    · rename_i k _
      split at e
      · rename_i hk
        simp only [Option.some.injEq] at e
        rw [← hk.2, show k = (j : Int) by omega]
        exact itoa_small j h
      · cases e
    · cases e
def ten : ByteArray := ⟨#[48, 49, 50, 51, 52, 53, 54, 55, 56, 57]⟩
theorem ten_digit : ∀ i : Fin 10, ten.extract i.val (i.val + 1) = ⟨#[UInt8.ofNat (48 + i.val)]⟩ := by decide +kernel
theorem slice_dig (j : Nat) (h : j < 10) (W : World) : (Instr.slice 9 (.string ⟨#[48, 49, 50, 51, 52, 53, 54, 55, 56, 57]⟩) (some (.int .i64 (j : Int))) (some (.int .i64 ((j : Int) + 1))) none).run Tryz.prog W = .ok (.string ⟨#[UInt8.ofNat (48 + j)]⟩) W := by
  have e := ten_digit ⟨j, h⟩
  have hz : (((⟨#[48, 49, 50, 51, 52, 53, 54, 55, 56, 57]⟩ : ByteArray).size : Nat) : Int) = 10 := rfl
  rw [run_slice_string (P := Tryz.prog) W 9 _ .i64 .i64 _ _ Tryz.underlying9 (by omega) (by omega) (by rw [hz]; omega)]
  have e1 : ((j : Int)).toNat = j := by omega
  have e2 : ((j : Int) + 1).toNat = j + 1 := by omega
  rw [e1, e2]
  exact congrArg (fun b => Result.ok (Value.string b) W) e
theorem eq_dig (j : Nat) (part : ByteArray) : (part.toList == (⟨#[UInt8.ofNat (48 + j)]⟩ : ByteArray).toList) = decide (part.data.toList = [UInt8.ofNat (48 + j)]) := by
  rw [ByteArray.toList_eq, ByteArray.toList_eq, Bool.eq_iff_iff, beq_iff_eq, decide_eq_true_iff]

/-- what at tells. -/
def GotAns (w0 w w' : World) (r : Option V) (e : Ending) : Prop :=
  ∃ l' f' m, e = .returned (.tuple #[.agg #[.int .i64 (r.getD zeroV).kind, .int .i64 (r.getD zeroV).num, .string (r.getD zeroV).text, l', f'], .bool r.isSome]) ∧ Lies m w0 (r.getD zeroV) l' f' ∧ Below w.heap.size w w'

set_option maxRecDepth 100000 in
set_option maxHeartbeats 4000000 in
theorem at6_any (n : Nat) (v : V) (l f : Value) (part : ByteArray) (w0 w : World) (hB0 : Below w0.heap.size w0 w) (hL : Lies n w0 v l f) (h10 : v.kind = 4 → v.list.length ≤ 10) :
    Calls Tryz.prog 20 #[.agg #[.int .i64 v.kind, .int .i64 v.num, .string v.text, l, f], .string part] w fun e w' => GotAns w0 w w' (atP v part) e := by
  obtain ⟨⟨es, e1, e2, e3⟩, ⟨fs, f1, f2, f3⟩⟩ := Rep.up hL
  have hel : es.length = v.list.length := by rw [← e1, List.length_map]
  have hfl : fs.length = v.fields.length := by rw [← f1, List.length_map]
  rw [hel] at e2
  rw [hfl] at f2
  obtain ⟨a1, c1, a3, c3, rfl, rfl⟩ := Rep.slices hL
  obtain ⟨O1, hO1⟩ : ∃ O, Obj.cells #[.int .i64 v.kind, .int .i64 v.num, .string v.text, .slice a1 v.list.length c1, .slice a3 v.fields.length c3] 28 = O := ⟨_, rfl⟩
  obtain ⟨O2, hO2⟩ : ∃ O, Obj.cells #[.int .i64 0, .int .i64 0, .string ⟨#[]⟩, .slice none 0 0, .slice none 0 0] 28 = O := ⟨_, rfl⟩
  obtain ⟨W2, hW2⟩ : ∃ W, (w.alloc O1).alloc O2 = W := ⟨_, rfl⟩
  have hB2 : Below w.heap.size w W2 := by rw [← hW2]; exact ((Below.refl _ _).alloc (Nat.le_refl _) _).alloc (by simp) _
  have r0 : W2.heap[w.heap.size]? = some O1 := by rw [← hW2]; exact heap_alloc2_old
  have r1 : W2.heap[w.heap.size + 1]? = some O2 := by rw [← hW2]; exact heap_alloc2_new
  have hsz2 : W2.heap.size = w.heap.size + 2 := by rw [← hW2]; simp
  rw [← hO1] at r0
  rw [← hO2] at r1
  obtain ⟨x0, x1, x2, x3, x4, xf⟩ := row5 r0
  obtain ⟨y0, y1, y2, y3, y4, yf⟩ := row5 r1
  rw [← hO1, ← hO2] at hW2
  have nel := e2.2.1
  have nfl := f2.2.1
  have HH := (show Hid _ from And.intro hL (And.intro e1 (And.intro e2 (And.intro e3 (And.intro f1 (And.intro f2 (And.intro f3 (And.intro hB2 (And.intro r0 r1)))))))))
  clear hO1 hO2 hL e1 e2 e3 f1 f2 f3 hB2 r0 r1 O1 O2
  by_cases h5 : v.kind = 5
  · have hatH := (show Hid _ from at5 h5 part)
    rw [h5] at x0 hW2 ⊢
    go_enter Tryz.func20, Tryz.ntmps20
    go_wp2
    go_loopg [7, 16] v.fields.length (fun gg _ i wr => ∃ k : Nat, k ≤ v.fields.length ∧ v.fields.length - k ≤ gg ∧ i = .int .i64 k ∧ Aside (Below W2.heap.size W2 wr ∧ ∀ j q, j < k → v.fields[j]? = some q → isName part q = false))
    case atStart => exact ⟨0, Nat.zero_le _, by omega, rfl, Below.refl _ _, fun j _ hj => absurd hj (Nat.not_lt_zero _)⟩
    case round =>
      obtain ⟨k, hk, hgg, rfl, A⟩ := hrel
      by_cases hlt : k < v.fields.length
      · obtain ⟨hL, e1, e2, e3, f1, f2, f3, hB2, r0, r1⟩ := HH.out
        obtain ⟨hBr, hno⟩ := A.out
        have hBw := hB2.trans (hBr.mono hB2.size)
        obtain ⟨C, c', e0, -, -, hc1, hc2, -⟩ := f2.cells (by omega)
        simp only [Value.slice.injEq] at e0
        obtain ⟨rfl, -, rfl⟩ := e0
        obtain ⟨⟨xn, xv, xl, xfv⟩, hx⟩ : ∃ x, fs[k]? = some x := ⟨_, List.getElem?_eq_getElem (by omega)⟩
        obtain ⟨b0, b1, b2, b3, b4, b5⟩ := (f2.move (fun b _ hl => ⟨trivial, (hB0.trans (hBw.mono hB0.size)).block b hl⟩) : RowAt (fun _ => True) wr _ _ _ _ _).fl hx
        have hxp : v.fields[k]? = some (xn, xv) := by rw [← f1, List.getElem?_map, hx]; rfl
        have hlx : Lies n w0 xv xl xfv := f3 _ (List.mem_of_getElem? hx)
        simp only at b0 b1 b2 b3 b4 b5
        obtain ⟨al, cl, af, cf, rfl, rfl⟩ := hlx.slices
        obtain ⟨W3, hW3⟩ : ∃ W, wr.alloc (.cells #[.string xn, .int .i64 xv.kind, .int .i64 xv.num, .string xv.text, .slice al xv.list.length cl, .slice af xv.fields.length cf] 44) = W := ⟨_, rfl⟩
        have hB3 : Below wr.heap.size wr W3 := by rw [← hW3]; exact (Below.refl _ _).alloc (Nat.le_refl _) _
        have hBw3 : Below w.heap.size w W3 := hBw.trans (hB3.mono hBw.size)
        have hBr3 : Below W2.heap.size W2 W3 := hBr.trans (hB3.mono hBr.size)
        have u1 := (hBr3.block _ (lt_of_heap r1)).trans r1
        obtain ⟨z0, z1, z2, z3, z4, zf⟩ := row5 u1
        have u2 : W3.heap[wr.heap.size]? = some (.cells #[.string xn, .int .i64 xv.kind, .int .i64 xv.num, .string xv.text, .slice al xv.list.length cl, .slice af xv.fields.length cf] 44) := by rw [← hW3]; exact heap_alloc_new wr _
        obtain ⟨t0, t1, t2, t3, t4, t5, tf⟩ := row6 u2
        have zk : (k : Int) < (v.fields.length : Int) := by omega
        have heq := beq_cmpT xn part
        have T := (show Hid _ from And.intro hlx (And.intro hBw3 (And.intro hxp hBr3)))
        clear hL e1 e2 e3 f1 f2 f3 hB2 r0 r1 hBr hBw hx hlx u1 hno hxp u2 hB3 hBw3 hBr3
        by_cases hc : cmpT xn part = 0
        · rw [decide_eq_true hc] at heq
          go_wp2
          refine bodyPost_ret (v := .tuple #[.agg #[.int .i64 xv.kind, .int .i64 xv.num, .string xv.text, .slice al xv.list.length cl, .slice af xv.fields.length cf], .bool true]) (by simp [results, Tryz.results20, go_sem, z0, z1, z2, z3, z4]) rfl ?_
          obtain ⟨hlx, hBw3, hxp, hBr3⟩ := T.out
          have hg : atP v part = some xv := by
            rw [hatH.out]
            rcases where_name part v.fields with ⟨g1, g2⟩ | ⟨j', q', y', g1, g2, g3, _⟩
            · have := whereI_hit (isName part) k v.fields _ hxp (decide_eq_true hc) A.out.2
              rw [g1] at this; omega
            · have := whereI_hit (isName part) k v.fields _ hxp (decide_eq_true hc) A.out.2
              obtain rfl : j' = k := by rw [g1] at this; omega
              rw [hxp] at g2
              cases g2
              exact g3
          rw [hg]
          have hfin := set5W_below hBw3 (Nat.le_succ _) 0 1 2 3 4 (.int .i64 xv.kind) (.int .i64 xv.num) (.string xv.text) (.slice al xv.list.length cl) (.slice af xv.fields.length cf)
          exact ⟨_, _, n, rfl, hlx, hfin⟩
        · rw [decide_eq_false hc] at heq
          go_wp2
          go_roundg (v.fields.length - (k + 1))
          case measure => omega
          case rel =>
            obtain ⟨hlx, hBw3, hxp, hBr3⟩ := T.out
            refine ⟨k + 1, by omega, by omega, by go_num, (show Aside _ from ⟨hBr3, fun j q hj hq => ?_⟩)⟩
            by_cases e : j = k
            · subst e
              rw [hxp] at hq
              cases hq
              exact decide_eq_false hc
            · exact A.out.2 j q (by omega) hq
      · have zk : ¬ (k : Int) < (v.fields.length : Int) := by omega
        obtain ⟨hL, e1, e2, e3, f1, f2, f3, hB2, r0, r1⟩ := HH.out
        obtain ⟨hBr, hno⟩ := A.out
        have hBw := hB2.trans (hBr.mono hB2.size)
        have u1 := (hBr.block _ (lt_of_heap r1)).trans r1
        obtain ⟨z0, z1, z2, z3, z4, zf⟩ := row5 u1
        have u0 := (hBr.block _ (lt_of_heap r0)).trans r0
        rw [h5] at u0
        obtain ⟨t0, t1, t2, t3, t4, tf⟩ := row5 u0
        have hg : atP v part = none := by
          rw [hatH.out]
          rcases where_name part v.fields with ⟨g1, g2⟩ | ⟨j', q', y', g1, g2, g3, _⟩
          · exact g2
          · have h0 := whereI_miss (isName part) v.fields fun y hy => by
              obtain ⟨j, hj⟩ := List.mem_iff_getElem?.1 hy
              exact hno j y (by have := (List.getElem?_eq_some_iff.1 hj).1; omega) hj
            rw [g1] at h0; omega
        have T := (show Hid _ from And.intro hBw hg)
        clear hL e1 e2 e3 f1 f2 f3 hB2 r0 r1 hBr hBw u1 u0 hno hg
        go_wp2
        refine bodyPost_ret (v := .tuple #[.agg #[.int .i64 0, .int .i64 0, .string ⟨#[]⟩, .slice none 0 0, .slice none 0 0], .bool false]) (by simp [results, Tryz.results20, go_sem, z0, z1, z2, z3, z4]) rfl ?_
        rw [T.out.2]
        exact ⟨_, _, 0, rfl, ⟨rfl, rfl, rfl, rfl⟩, set5W_below T.out.1 (Nat.le_succ _) 0 1 2 3 4 _ _ _ _ _⟩
  by_cases h4 : v.kind = 4
  · have hatH := (show Hid _ from at4 h4 part)
    have hl10 := h10 h4
    rw [h4] at x0 hW2 ⊢
    go_enter Tryz.func20, Tryz.ntmps20
    go_wp2
    go_loopg [8, 9, 33] v.list.length (fun gg _ _ i wr => ∃ k : Nat, k ≤ v.list.length ∧ v.list.length - k ≤ gg ∧ i = .int .i64 k ∧ Aside (Below W2.heap.size W2 wr ∧ ∀ j, j < k → ¬ placeOf part = some j))
    case atStart => exact ⟨0, Nat.zero_le _, by omega, rfl, Below.refl _ _, fun j hj => absurd hj (Nat.not_lt_zero _)⟩
    case round =>
      obtain ⟨k, hk, hgg, rfl, A⟩ := hrel
      by_cases hlt : k < v.list.length
      · obtain ⟨hL, e1, e2, e3, f1, f2, f3, hB2, r0, r1⟩ := HH.out
        obtain ⟨hBr, hno⟩ := A.out
        have hBw := hB2.trans (hBr.mono hB2.size)
        obtain ⟨C, c', e0, -, -, hc1, hc2, -⟩ := e2.cells (by omega)
        simp only [Value.slice.injEq] at e0
        obtain ⟨rfl, -, rfl⟩ := e0
        obtain ⟨⟨xv, xl, xfv⟩, hx⟩ : ∃ x, es[k]? = some x := ⟨_, List.getElem?_eq_getElem (by omega)⟩
        obtain ⟨b0, b1, b2, b3, b4⟩ := (e2.move (fun b _ hl => ⟨trivial, (hB0.trans (hBw.mono hB0.size)).block b hl⟩) : RowAt (fun _ => True) wr _ _ _ _ _).el hx
        have hxp : v.list[k]? = some xv := by rw [← e1, List.getElem?_map, hx]; rfl
        have hlx : Lies n w0 xv xl xfv := e3 _ (List.mem_of_getElem? hx)
        simp only at b0 b1 b2 b3 b4
        obtain ⟨al, cl, af, cf, rfl, rfl⟩ := hlx.slices
        obtain ⟨W3, hW3⟩ : ∃ W, wr.alloc (.cells #[.int .i64 xv.kind, .int .i64 xv.num, .string xv.text, .slice al xv.list.length cl, .slice af xv.fields.length cf] 28) = W := ⟨_, rfl⟩
        have hB3 : Below wr.heap.size wr W3 := by rw [← hW3]; exact (Below.refl _ _).alloc (Nat.le_refl _) _
        have hBw3 : Below w.heap.size w W3 := hBw.trans (hB3.mono hBw.size)
        have hBr3 : Below W2.heap.size W2 W3 := hBr.trans (hB3.mono hBr.size)
        have u1 := (hBr3.block _ (lt_of_heap r1)).trans r1
        obtain ⟨z0, z1, z2, z3, z4, zf⟩ := row5 u1
        have u2 : W3.heap[wr.heap.size]? = some (.cells #[.int .i64 xv.kind, .int .i64 xv.num, .string xv.text, .slice al xv.list.length cl, .slice af xv.fields.length cf] 28) := by rw [← hW3]; exact heap_alloc_new wr _
        obtain ⟨t0, t1, t2, t3, t4, tf⟩ := row5 u2
        have zk : (k : Int) < (v.list.length : Int) := by omega
        have zk10 : (k : Int) < 10 := by omega
        have zk0 : (0 : Int) ≤ (k : Int) := by omega
        have hsl := slice_dig k (by omega)
        have heq := eq_dig k part
        have hdp := dig_place k (by omega) part
        have T := (show Hid _ from And.intro hlx (And.intro hBw3 (And.intro hxp hBr3)))
        generalize (⟨#[UInt8.ofNat (48 + k)]⟩ : ByteArray) = E at heq hsl
        clear hL e1 e2 e3 f1 f2 f3 hB2 r0 r1 hBr hBw hx hlx u1 hno hxp u2 hB3 hBw3 hBr3
        by_cases hc : placeOf part = some k
        · rw [decide_eq_true (hdp.2 hc)] at heq
          clear hdp
          go_wp2
          refine bodyPost_ret (v := .tuple #[.agg #[.int .i64 xv.kind, .int .i64 xv.num, .string xv.text, .slice al xv.list.length cl, .slice af xv.fields.length cf], .bool true]) (by simp [results, Tryz.results20, go_sem, z0, z1, z2, z3, z4]) rfl ?_
          obtain ⟨hlx, hBw3, hxp, hBr3⟩ := T.out
          have hg : atP v part = some xv := by rw [hatH.out, hc, Option.bind_some, hxp]
          rw [hg]
          have hfin := set5W_below hBw3 (Nat.le_succ _) 0 1 2 3 4 (.int .i64 xv.kind) (.int .i64 xv.num) (.string xv.text) (.slice al xv.list.length cl) (.slice af xv.fields.length cf)
          exact ⟨_, _, n, rfl, hlx, hfin⟩
        · rw [decide_eq_false fun h => hc (hdp.1 h)] at heq
          clear hdp
          go_wp2
          go_roundg (v.list.length - (k + 1))
          case measure => omega
          case rel =>
            obtain ⟨hlx, hBw3, hxp, hBr3⟩ := T.out
            refine ⟨k + 1, by omega, by omega, by go_num, (show Aside _ from ⟨hBr3, fun j hj => ?_⟩)⟩
            by_cases e : j = k
            · subst e; exact hc
            · exact A.out.2 j (by omega)
      · have zk : ¬ (k : Int) < (v.list.length : Int) := by omega
        obtain ⟨hL, e1, e2, e3, f1, f2, f3, hB2, r0, r1⟩ := HH.out
        obtain ⟨hBr, hno⟩ := A.out
        have hBw := hB2.trans (hBr.mono hB2.size)
        have u1 := (hBr.block _ (lt_of_heap r1)).trans r1
        obtain ⟨z0, z1, z2, z3, z4, zf⟩ := row5 u1
        have hg : atP v part = none := by
          rw [hatH.out]
          rcases hp : placeOf part with _ | i
          · rfl
          · rw [Option.bind_some]
            refine List.getElem?_eq_none ?_
            rcases Nat.lt_or_ge i v.list.length with h | h
            · exact absurd hp (hno i (by omega))
            · exact h
        have T := (show Hid _ from And.intro hBw hg)
        clear hL e1 e2 e3 f1 f2 f3 hB2 r0 r1 hBr hBw u1 hno hg
        go_wp2
        refine bodyPost_ret (v := .tuple #[.agg #[.int .i64 0, .int .i64 0, .string ⟨#[]⟩, .slice none 0 0, .slice none 0 0], .bool false]) (by simp [results, Tryz.results20, go_sem, z0, z1, z2, z3, z4]) rfl ?_
        rw [T.out.2]
        exact ⟨_, _, 0, rfl, ⟨rfl, rfl, rfl, rfl⟩, set5W_below T.out.1 (Nat.le_succ _) 0 1 2 3 4 _ _ _ _ _⟩
  · have hatH := (show Hid _ from at_none h5 h4 part)
    have e5 : (v.kind == 5) = false := by simpa using h5
    have e4 : (v.kind == 4) = false := by simpa using h4
    go_enter Tryz.func20, Tryz.ntmps20
    go_wp2
    refine bodyPost_ret (v := .tuple #[.agg #[.int .i64 0, .int .i64 0, .string ⟨#[]⟩, .slice none 0 0, .slice none 0 0], .bool false]) (by simp [results, Tryz.results20, go_sem, y0, y1, y2, y3, y4]) rfl ?_
    obtain ⟨hL, e1, e2, e3, f1, f2, f3, hB2, r0, r1⟩ := HH.out
    rw [hatH.out]
    exact ⟨_, _, 0, rfl, ⟨rfl, rfl, rfl, rfl⟩, set5W_below hB2 (Nat.le_succ _) 0 1 2 3 4 _ _ _ _ _⟩
end Go.Proofs.YtgcccihnlecpnaaGreatDoor

namespace Go.Proofs.YtgcccihnlecpnaaGreatDoor
open Go.RowKit

/-- lists have at most ten values, so deep. -/
def Ten : Nat → V → Prop
  | 0, _ => True
  | n + 1, v => v.list.length ≤ 10 ∧ (∀ x ∈ v.list, Ten n x) ∧ ∀ p ∈ v.fields, Ten n p.2
theorem ten_at {n : Nat} {v x : V} {p : ByteArray} (h : Ten (n + 1) v) (ha : atP v p = some x) : Ten n x := by
  unfold atP at ha
  split at ha
  · obtain ⟨q, hq, e, _⟩ := getF_mem ha
    rw [← e]; exact h.2.2 q hq
  · split at ha
    · obtain ⟨i, _, hi⟩ := Option.bind_eq_some_iff.1 ha
      exact h.2.1 x (List.mem_of_getElem? hi)
    · cases ha

theorem box_set {W : World} {B t : Nat} {b0 b1 b2 b3 b4 : Value} (h : W.heap[B]? = some (.cells #[b0, b1, b2, b3, b4] t (0, 0))) (a0 a1 a2 a3 a4 : Value) : (set5W W B 0 1 2 3 4 a0 a1 a2 a3 a4).heap[B]? = some (.cells #[a0, a1, a2, a3, a4] t (0, 0)) :=
  set5 h (i := 0) (by simp) a0 a1 a2 a3 a4

set_option maxRecDepth 100000 in
set_option maxHeartbeats 4000000 in
theorem LFind_any (n : Nat) (ps : List ByteArray) (s : Value) (v : V) (l f : Value) (w : World) (hs : StrsAt w s ps) (hL : Lies n w v l f) (hT : Ten ps.length v) :
    Calls Tryz.prog 11 #[.agg #[.int .i64 v.kind, .int .i64 v.num, .string v.text, l, f], s] w fun e w' => GotAns w w w' (findP v ps) e := by
  obtain ⟨a1, c1, a3, c3, rfl, rfl⟩ := Rep.slices hL
  obtain ⟨a, cap, rfl, hc1, hc2, hcells⟩ := hs
  obtain ⟨W2, hW2⟩ : ∃ W, (w.alloc (.cells #[.int .i64 v.kind, .int .i64 v.num, .string v.text, .slice a1 v.list.length c1, .slice a3 v.fields.length c3] 28)).alloc (.cells #[.int .i64 0, .int .i64 0, .string ⟨#[]⟩, .slice none 0 0, .slice none 0 0] 28) = W := ⟨_, rfl⟩
  have hB2 : Below w.heap.size w W2 := by rw [← hW2]; exact ((Below.refl _ _).alloc (Nat.le_refl _) _).alloc (by simp) _
  have r0 : W2.heap[w.heap.size]? = some (.cells #[.int .i64 v.kind, .int .i64 v.num, .string v.text, .slice a1 v.list.length c1, .slice a3 v.fields.length c3] 28) := by rw [← hW2]; exact heap_alloc2_old
  have r1 : W2.heap[w.heap.size + 1]? = some (.cells #[.int .i64 0, .int .i64 0, .string ⟨#[]⟩, .slice none 0 0, .slice none 0 0] 28) := by rw [← hW2]; exact heap_alloc2_new
  have HH := (show Hid _ from And.intro hL (And.intro hT (And.intro hcells (And.intro hB2 (And.intro r0 r1)))))
  clear hL hT hB2 r0 r1 hcells
  go_enter Tryz.func11, Tryz.ntmps11
  go_wp2
  go_loopg [7, 8, 9, 12] ps.length (fun gg _ _ _ i wr => ∃ (k m : Nat) (u : V) (al cl af cf : _), k ≤ ps.length ∧ ps.length - k ≤ gg ∧ i = .int .i64 k ∧ Aside (Below w.heap.size w wr ∧ Lies m w u (.slice al u.list.length cl) (.slice af u.fields.length cf) ∧ Ten (ps.length - k) u ∧ findP v ps = findP u (ps.drop k) ∧
    wr.heap[w.heap.size]? = some (.cells #[.int .i64 u.kind, .int .i64 u.num, .string u.text, .slice al u.list.length cl, .slice af u.fields.length cf] 28 (0, 0)) ∧ wr.heap[w.heap.size + 1]? = some (.cells #[.int .i64 0, .int .i64 0, .string ⟨#[]⟩, .slice none 0 0, .slice none 0 0] 28 (0, 0))))
  case atStart =>
    obtain ⟨hL, hT, hcells, hB2, r0, r1⟩ := HH.out
    exact ⟨0, n, v, _, _, _, _, Nat.zero_le _, by omega, rfl, hB2, hL, hT, rfl, r0, r1⟩
  case round =>
    obtain ⟨k, m, u, al, cl, af, cf, hk, hgg, rfl, A⟩ := hrel
    obtain ⟨hB, hLu, hTu, hF, q0, q1⟩ := A.out
    obtain ⟨x0, x1, x2, x3, x4, xf⟩ := row5 q0
    obtain ⟨y0, y1, y2, y3, y4, yf⟩ := row5 q1
    by_cases hlt : k < ps.length
    · obtain ⟨hL, hT, hcells, hB2, r0, r1⟩ := HH.out
      obtain ⟨p, hpk⟩ : ∃ p, ps[k]? = some p := ⟨_, List.getElem?_eq_getElem hlt⟩
      have hdrop : ps.drop k = p :: ps.drop (k + 1) := by
        rw [List.drop_eq_getElem_cons hlt, ← (List.getElem?_eq_some_iff.1 hpk).2]
      obtain ⟨ab, ao, rfl, hcell⟩ := hcells (fun e => by rw [e] at hlt; simp at hlt)
      have c0 := hcell k p hpk
      have c0' : wr.cell? ⟨ab, ao + k, none⟩ = some (.string p) := (hB.cell (lt_of_cell c0)).trans c0
      have zk : (k : Int) < (ps.length : Int) := by omega
      rw [show ps.length - k = (ps.length - (k + 1)) + 1 by omega] at hTu
      have hcall := at6_any m u _ _ p w wr hB hLu fun _ => hTu.1
      rw [hdrop] at hF
      have hlt0 := lt_of_heap q0
      have hlt1 := lt_of_heap q1
      have T := (show Hid _ from And.intro hTu hF)
      clear hL hT hcells hB2 r0 r1 hcell c0 hB hLu hTu hF q0 q1
      rcases hat : atP u p with _ | y
      · rw [hat] at hcall
        have hcall' : Calls Tryz.prog 20 #[.agg #[.int .i64 u.kind, .int .i64 u.num, .string u.text, .slice al u.list.length cl, .slice af u.fields.length cf], .string p] wr fun e w' => ∃ l' f' m', e = .returned (.tuple #[.agg #[.int .i64 0, .int .i64 0, .string ⟨#[]⟩, l', f'], .bool false]) ∧ Lies m' w zeroV l' f' ∧ Below wr.heap.size wr w' := hcall
        have hatH := (show Hid _ from hat)
        clear hat hcall
        go_wp2_with fail
        refine hcall'.mono ?_
        rintro e w3 ⟨l', f', m', rfl, hLx, hb3⟩
        obtain ⟨hB, hLu, -, -, q0, q1⟩ := A.out
        obtain ⟨z1, d1, z3, d3, e1, e2⟩ := Rep.slices hLx
        have e1' : l' = .slice z1 0 d1 := e1
        have e2' : f' = .slice z3 0 d3 := e2
        subst e1' e2'
        obtain ⟨W4, hW4⟩ : ∃ W, w3.alloc (.cells #[.int .i64 0, .int .i64 0, .string ⟨#[]⟩, .slice z1 0 d1, .slice z3 0 d3] 28) = W := ⟨_, rfl⟩
        have hB4 : Below wr.heap.size wr W4 := by rw [← hW4]; exact hb3.alloc hb3.size _
        have q14 := (hB4.block _ (lt_of_heap q1)).trans q1
        obtain ⟨t0, t1, t2, t3, t4, tf⟩ := row5 q14
        have hBw4 := hB.trans (hB4.mono hB.size)
        have U := (show Hid _ from hBw4)
        clear hB hLu q0 q1 hLx e1 e2 hB4 q14 hBw4 hb3 hcall' x0 x1 x2 x3 x4 xf y0 y1 y2 y3 y4 yf
        go_wp2
        refine bodyPost_ret (v := .tuple #[.agg #[.int .i64 0, .int .i64 0, .string ⟨#[]⟩, .slice none 0 0, .slice none 0 0], .bool false]) (by simp [results, Tryz.results11, go_sem, t0, t1, t2, t3, t4]) rfl ?_
        rw [T.out.2, find_cons_none hatH.out]
        exact ⟨_, _, 0, rfl, ⟨rfl, rfl, rfl, rfl⟩, set5W_below U.out (Nat.le_succ _) 0 1 2 3 4 _ _ _ _ _⟩
      · rw [hat] at hcall
        have hcall' : Calls Tryz.prog 20 #[.agg #[.int .i64 u.kind, .int .i64 u.num, .string u.text, .slice al u.list.length cl, .slice af u.fields.length cf], .string p] wr fun e w' => ∃ l' f' m', e = .returned (.tuple #[.agg #[.int .i64 y.kind, .int .i64 y.num, .string y.text, l', f'], .bool true]) ∧ Lies m' w y l' f' ∧ Below wr.heap.size wr w' := hcall
        have hatH := (show Hid _ from hat)
        clear hat hcall
        go_wp2_with fail
        refine hcall'.mono ?_
        rintro e w3 ⟨l', f', m', rfl, hLx, hb3⟩
        obtain ⟨hB, hLu, -, -, q0, q1⟩ := A.out
        obtain ⟨z1, d1, z3, d3, rfl, rfl⟩ := Rep.slices hLx
        obtain ⟨W4, hW4⟩ : ∃ W, w3.alloc (.cells #[.int .i64 y.kind, .int .i64 y.num, .string y.text, .slice z1 y.list.length d1, .slice z3 y.fields.length d3] 28) = W := ⟨_, rfl⟩
        have hB4 : Below wr.heap.size wr W4 := by rw [← hW4]; exact hb3.alloc hb3.size _
        have q04 := (hB4.block _ (lt_of_heap q0)).trans q0
        have q14 := (hB4.block _ (lt_of_heap q1)).trans q1
        have qn : W4.heap[w3.heap.size]? = some (.cells #[.int .i64 y.kind, .int .i64 y.num, .string y.text, .slice z1 y.list.length d1, .slice z3 y.fields.length d3] 28) := by rw [← hW4]; exact heap_alloc_new w3 _
        obtain ⟨t0, t1, t2, t3, t4, tf⟩ := row5 q04
        obtain ⟨k0, k1, k2, k3, k4, kf⟩ := row5 qn
        have hBw4 := hB.trans (hB4.mono hB.size)
        have U := (show Hid _ from And.intro hBw4 (And.intro q04 (And.intro q14 hLx)))
        clear hB hLu q0 q1 hLx hB4 q04 q14 qn hBw4 hb3 hcall' x0 x1 x2 x3 x4 xf y0 y1 y2 y3 y4 yf
        go_wp2
        go_roundg (ps.length - (k + 1))
        case measure => omega
        case rel =>
          obtain ⟨hBw4, q04, q14, hLx⟩ := U.out
          refine ⟨k + 1, m', y, z1, d1, z3, d3, by omega, by omega, by go_num, (show Aside _ from ⟨?_, hLx, ten_at T.out.1 hatH.out, T.out.2.trans (find_cons_some hatH.out), box_set q04 _ _ _ _ _, (set5W_ne _ _ _ _ _ _ _ _ _ _ _ _ (by omega)).trans q14⟩)⟩
          exact set5W_below hBw4 (Nat.le_refl _) 0 1 2 3 4 _ _ _ _ _
    · have zk : ¬ (k : Int) < (ps.length : Int) := by omega
      have hd : ps.drop k = [] := List.drop_of_length_le (by omega)
      rw [hd] at hF
      have T := (show Hid _ from And.intro hB (And.intro hLu hF))
      have hlt0 := lt_of_heap q0
      have hlt1 := lt_of_heap q1
      clear hB hLu hF hTu q0 q1
      go_wp2
      refine bodyPost_ret (v := .tuple #[.agg #[.int .i64 u.kind, .int .i64 u.num, .string u.text, .slice al u.list.length cl, .slice af u.fields.length cf], .bool true]) (by simp [results, Tryz.results11, go_sem, y0, y1, y2, y3, y4]) rfl ?_
      rw [T.out.2.2]
      exact ⟨_, _, m, rfl, T.out.2.1, set5W_below T.out.1 (Nat.le_succ _) 0 1 2 3 4 _ _ _ _ _⟩
end Go.Proofs.YtgcccihnlecpnaaGreatDoor

namespace Go.Proofs.YtgcccihnlecpnaaGreatDoor
open Go.RowKit

theorem infoStr : (Tryz.prog.info? 9).map (fun i => (i.zero, i.size, i.bytes)) = some (some (.string ⟨#[]⟩), 1, 16) := by kernel_rfl
theorem info_parts1 {t : TypeId} {z : Value} {s b : Nat} (h : (Tryz.prog.info? t).map (fun i => (i.zero, i.size, i.bytes)) = some (some z, s, b)) : ∃ i, Tryz.prog.info? t = some i ∧ i.zero = some z ∧ i.size = s ∧ i.bytes = b := by
  obtain ⟨i, hi, hzz⟩ := Option.map_eq_some_iff.1 h
  simp only [Prod.mk.injEq] at hzz
  exact ⟨i, hi, hzz.1, hzz.2.1, hzz.2.2⟩
/-- a slice of texts that was made since. -/
structure OwS (w0 : World) (s : Value) (l : List ByteArray) (w : World) : Prop where
  below : Below w0.heap.size w0 w
  own : w.ownsRow w0.heap.size 9 1 s l.length (l.map Value.string)
theorem OwS.same {w0 w w' : World} {s : Value} {l : List ByteArray} (h : OwS w0 s l w) (hb : Below w.heap.size w w') : OwS w0 s l w' :=
  ⟨h.below.trans (hb.mono h.below.size), ownsRow_move (fun b hb' hl => ⟨(h.own.lt b hb').1, hb.block b hl⟩) h.own⟩
theorem OwS.nil {w0 w : World} (h : Below w0.heap.size w0 w) : OwS w0 (.slice none 0 0) [] w := ⟨h, World.ownsRow_nil _ _ _ _⟩
theorem OwS.strs {w0 w : World} {s : Value} {l : List ByteArray} (h : OwS w0 s l w) : StrsAt w s l := by
  rcases h.own.2 with ⟨rfl, h0⟩ | ⟨g, cap, cur, rfl, hb, hg, h1, h2, h3, h4⟩
  · obtain rfl := List.length_eq_zero_iff.1 h0
    exact ⟨none, 0, rfl, Nat.le_refl _, by omega, fun h => absurd rfl h⟩
  · refine ⟨_, cap, rfl, h1, by unfold maxLen at h2; omega, fun _ => ⟨g, 0, rfl, fun j u hj => ?_⟩⟩
    have hc := h.own.cells (g := g) rfl j (.string u) (by rw [List.getElem?_map, hj]; rfl)
    rwa [Addr.add_lit] at hc

/-- a text is appended. -/
theorem append_str {ops : Array Oper} {rest : List Oper} {o : Oper} {a : Act} {Q : Exit → Act → World → Prop} (hgd : o.guard = none) (s x : Operand)
    (ho : o.op = .call { callee := .builtin .append, args := #[s, x], argTypes := #[30, 30] })
    {w0 w : World} {sv : Value} {l : List ByteArray} (h : OwS w0 sv l w) (p : ByteArray) (hs : a.eval s = sv) (H : Nat) (hx : a.eval x = .slice (some ⟨H, 0, none⟩) 1 1) (hH : w.heap.size = H) (hl : l.length ≤ 1000000000)
    (k : ∀ sv' w', OwS w0 sv' (l ++ [p]) w' → wpList Tryz.prog ops Q rest (a.put o.dst sv') w') : wpList Tryz.prog ops Q (o :: rest) a (w.alloc (.cells #[.string p] 9)) := by
  subst hH
  obtain ⟨i0, hi, hz0, hz1, hz2⟩ := info_parts1 infoStr
  have hB : Below w.heap.size w (w.alloc (.cells #[.string p] 9)) := (Below.refl _ _).alloc (Nat.le_refl _) _
  have h1 := h.same hB
  have hnews : ∀ j u, ([Value.string p])[j]? = some u → (w.alloc (.cells #[.string p] 9)).cell? ((⟨w.heap.size, 0, none⟩ : Addr).add j) = some u := by
    have hh : (w.alloc (.cells #[.string p] 9)).heap[w.heap.size]? = some (.cells #[.string p] 9) := heap_alloc_new w _
    exact World.news_of_block hh
  have hone : ∀ v ∈ [Value.string p], v.oneCell' = true := by
    intro v hv
    rw [List.mem_singleton.1 hv]; rfl
  refine wpList_append_lies _ hgd s x 30 ho w0.heap.size 9 i0 _ 1 16 Tryz.underlying30 hi hz0 hz1 hz2 rfl (by decide) sv l.length (l.map Value.string) hs h1.own ⟨w.heap.size, 0, none⟩ 1 1 [Value.string p] hx (by simp) hnews hone (by omega) (by unfold maxLen; omega) (by omega) h1.below.size _ rfl ?_
  intro g cap w3 hown3 hgrow3 hlie hlt3
  refine k _ w3 ⟨h1.below.grown hgrow3 h1.below.size (fun k e => (h.own.lt k e).1), ?_⟩
  rw [List.length_append, List.map_append]; exact hown3
end Go.Proofs.YtgcccihnlecpnaaGreatDoor

namespace Go.Proofs.YtgcccihnlecpnaaGreatDoor
open Go.RowKit

/-- a way by its bytes. -/
def wayOf (bs : List UInt8) : List ByteArray := (bs.take 4).map fun b => wayAt b.toNat
theorem way_word (m : Nat) (h : m < 10) : (#[Value.string ⟨#[97]⟩, .string ⟨#[98]⟩, .string ⟨#[99]⟩, .string ⟨#[110]⟩, .string ⟨#[48]⟩, .string ⟨#[49]⟩, .string ⟨#[50]⟩, .string ⟨#[48, 48]⟩, .string ⟨#[120]⟩, .string ⟨#[45, 49]⟩])[m]? = some (.string (wayAt m)) := by
  rcases (by omega : m = 0 ∨ m = 1 ∨ m = 2 ∨ m = 3 ∨ m = 4 ∨ m = 5 ∨ m = 6 ∨ m = 7 ∨ m = 8 ∨ m = 9) with rfl | rfl | rfl | rfl | rfl | rfl | rfl | rfl | rfl | rfl <;> rfl
theorem wayAt_mod (i : Nat) : wayAt (i % 10) = wayAt i := by unfold wayAt; rw [Nat.mod_mod]

set_option maxRecDepth 100000 in
set_option maxHeartbeats 2000000 in
theorem Way_any (v : Value) (bs : List UInt8) (w : World) (hb : BytesAt w v bs) :
    Calls Tryz.prog 9 #[v] w fun e w' => ∃ s, e = .returned s ∧ StrsAt w' s (wayOf bs) ∧ Below w.heap.size w w' := by
  obtain ⟨a, cap, rfl, hc1, hc2, hcells⟩ := hb
  obtain ⟨L, hL⟩ : ∃ L, min bs.length 4 = L := ⟨_, rfl⟩
  have hLl : (bs.take 4).length = L := by rw [List.length_take, ← hL, Nat.min_comm]
  have hmin : min (bs.length : Int) 4 = (L : Int) := by omega
  have zL : L ≤ cap := by omega
  have zL4 : L ≤ 4 := by omega
  have zc : (L : Int) ≤ (cap : Int) := by omega
  have z0 : (0 : Int) ≤ (L : Int) := by omega
  go_enter Tryz.func9, Tryz.ntmps9
  go_wp2
  go_loopg [3, 5, 12] L (fun gg sv _ i wr => ∃ k : Nat, k ≤ L ∧ L - k ≤ gg ∧ i = .int .i64 k ∧ Aside (OwS w sv ((wayOf bs).take k) wr))
  case atStart => exact ⟨0, Nat.zero_le _, by omega, rfl, OwS.nil (Below.refl _ _)⟩
  case round =>
    rename_i sv _ _
    obtain ⟨k, hk, hgg, rfl, A⟩ := hrel
    by_cases hlt : k < L
    · obtain ⟨u, hu⟩ : ∃ u, (bs.take 4)[k]? = some u := ⟨_, List.getElem?_eq_getElem (by omega)⟩
      have hu' : bs[k]? = some u := by rw [List.getElem?_take, if_pos (by omega)] at hu; exact hu
      obtain ⟨ab, ao, rfl, hcell⟩ := hcells (fun e => by rw [e] at hu'; simp at hu')
      have c0 := hcell k u hu'
      have c0' : wr.cell? ⟨ab, ao + k, none⟩ = some (.int .u8 u.toNat) := (A.out.below.cell (lt_of_cell c0)).trans c0
      have zk : (k : Int) < (L : Int) := by omega
      obtain ⟨c, hc⟩ : ∃ c : Int, (u.toNat : Int) = c := ⟨_, rfl⟩
      have hu256 := u.toNat_lt
      have b0 : 0 ≤ c := by omega
      have b1 : c ≤ 255 := by omega
      obtain ⟨m, hm⟩ : ∃ m : Nat, c % 10 = (m : Int) := ⟨(c % 10).toNat, by omega⟩
      have hm10 : m < 10 := by omega
      have hmu : u.toNat % 10 = m := by omega
      have hmt : c.tmod 10 = (m : Int) := by rw [Int.tmod_eq_emod_of_nonneg b0]; exact hm
      have hw := way_word m hm10
      obtain ⟨W1, hW1⟩ : ∃ W, wr.alloc (.cells #[Value.string ⟨#[97]⟩, .string ⟨#[98]⟩, .string ⟨#[99]⟩, .string ⟨#[110]⟩, .string ⟨#[48]⟩, .string ⟨#[49]⟩, .string ⟨#[50]⟩, .string ⟨#[48, 48]⟩, .string ⟨#[120]⟩, .string ⟨#[45, 49]⟩] 9) = W := ⟨_, rfl⟩
      have g1 : W1.heap[wr.heap.size]? = some (.cells #[Value.string ⟨#[97]⟩, .string ⟨#[98]⟩, .string ⟨#[99]⟩, .string ⟨#[110]⟩, .string ⟨#[48]⟩, .string ⟨#[49]⟩, .string ⟨#[50]⟩, .string ⟨#[48, 48]⟩, .string ⟨#[120]⟩, .string ⟨#[45, 49]⟩] 9) := by rw [← hW1]; exact heap_alloc_new wr _
      have cm : W1.cell? ⟨wr.heap.size, m, none⟩ = some (.string (wayAt m)) := cell_of_heap g1 hw
      have hsz : W1.heap.size = wr.heap.size + 1 := by rw [← hW1]; simp
      have A1 := (show Hid _ from A.out.same (by rw [← hW1]; exact (Below.refl _ _).alloc (Nat.le_refl _) _ : Below wr.heap.size wr W1))
      have zm : (m : Int) < 10 := by omega
      rw [hc] at c0'
      have HM := (show Hid _ from hmu)
      clear hcell hcells c0 hw g1 hu' hu256 hc hmu
      go_wp2_with (first | (at_builtin; refine append_str rfl (.tmp 16) (.tmp 22) rfl A1.out (wayAt m) rfl _ rfl hsz (by rw [List.length_take]; omega) ?_; intro s1 u1 h1; have H1 := (show Hid _ from h1); clear h1))
      go_roundg (L - (k + 1))
      case measure => omega
      case rel =>
        refine ⟨k + 1, by omega, by omega, by go_num, (show Aside _ from ?_)⟩
        have e : (wayOf bs).take (k + 1) = (wayOf bs).take k ++ [wayAt m] := by
          have hg : (wayOf bs)[k]? = some (wayAt m) := by
            unfold wayOf
            rw [List.getElem?_map, hu, ← HM.out, wayAt_mod]; rfl
          rw [List.take_add_one, hg]; rfl
        rw [e]
        exact H1.out
    · have zk : ¬ (k : Int) < (L : Int) := by omega
      clear hcells
      go_wp2
      go_ret
      have hd : (wayOf bs).take k = wayOf bs := List.take_of_length_le (by unfold wayOf; rw [List.length_map]; omega)
      have hA := A.out
      rw [hd] at hA
      exact ⟨_, rfl, hA.strs, hA.below⟩
end Go.Proofs.YtgcccihnlecpnaaGreatDoor

namespace Go.Proofs.YtgcccihnlecpnaaGreatDoor
open Go.RowKit

theorem below_of_drew {w W : World} (h : Below w.drew.heap.size w.drew W) : Below w.heap.size w W := ⟨h.os, h.tape, h.output, h.size, h.block⟩

/-- what is there when a field's value was written in place. -/
theorem set_there_rep {n : Nat} {v x : V} {w w1 w2 w3 : World} {o : Obj} {B j z : Nat} {q : ByteArray} {y : V} {es : List El} {fs : List Fl} {cur : Array Value} {l lx fx a0 a1 a2 a3 a4 : Value}
    (e2 : RowAt (fun k => z ≤ k ∧ k ≠ B) w1 28 5 l es.length (encEs es)) (e3 : ∀ e ∈ es, Rep (fun k => z ≤ k ∧ k ≠ B) n w1 e.v e.l e.f) (f4 : ∀ e ∈ fs, Rep (fun k => z ≤ k ∧ k ≠ B) n w1 e.v e.l e.f)
    (hb2 : Below (w1.alloc o).heap.size (w1.alloc o) w2) (hb3 : Below w2.heap.size w2 w3) (c3 : w3.heap[B]? = some (.cells cur 44 (0, 0))) (hrx : Rep (fun k => w2.drew.heap.size ≤ k) (n + 1) w3 x lx fx)
    (e1 : es.map El.v = v.list) (f1 : fs.map Fl.pair = v.fields) (hfl : fs.length = v.fields.length) (hnl : v.fields.length ≤ 1000000) (hcur : cur.toList = encFs fs) (hjy : v.fields[j]? = some (q, y)) (zB : B < w1.heap.size) (zB3 : w.heap.size + 1 + 1 < B) (_hz : w.heap.size ≤ w1.heap.size) (hzz : w.heap.size + 3 ≤ z := by simp) :
    Rep (fun k => w.heap.size ≤ k) (n + 2) (set5W (set5W w3 B (j * 6 + 1) (j * 6 + 2) (j * 6 + 3) (j * 6 + 4) (j * 6 + 5) (.int .i64 x.kind) (.int .i64 x.num) (.string x.text) lx fx) (w.heap.size + 1 + 1) 0 1 2 3 4 a0 a1 a2 a3 a4)
      { kind := 5, num := v.num, text := v.text, list := v.list, fields := v.fields.set j (q, x) } l (.slice (some ⟨B, 0, none⟩) v.fields.length v.fields.length) := by
  obtain ⟨e, he, hq⟩ : ∃ e, fs[j]? = some e ∧ e.name = q := by
    rw [← f1, List.getElem?_map] at hjy
    obtain ⟨⟨q', x', xl, xf⟩, h1, h2⟩ := Option.map_eq_some_iff.1 hjy
    simp only [Fl.pair, Prod.mk.injEq] at h2
    exact ⟨_, h1, h2.1⟩
  obtain ⟨cur', hc1, hc2⟩ := row_set c3 hcur he x lx fx
  generalize hW : set5W (set5W w3 B (j * 6 + 1) (j * 6 + 2) (j * 6 + 3) (j * 6 + 4) (j * 6 + 5) (.int .i64 x.kind) (.int .i64 x.num) (.string x.text) lx fx) (w.heap.size + 1 + 1) 0 1 2 3 4 a0 a1 a2 a3 a4 = W
  have n5 : ∀ b, b ≠ B → b ≠ w.heap.size + 1 + 1 → W.heap[b]? = w3.heap[b]? := fun b h1 h2 => by rw [← hW, set5W_ne _ _ _ _ _ _ _ _ _ _ _ _ h2, set5W_ne _ _ _ _ _ _ _ _ _ _ _ _ h1]
  have nB : W.heap[B]? = some (.cells cur' 44 (0, 0)) := by rw [← hW, set5W_ne _ _ _ _ _ _ _ _ _ _ _ _ (by omega)]; exact hc1
  have hz2 : w1.heap.size < w2.heap.size := by have := hb2.size; simp at this; omega
  have old : ∀ b, (z ≤ b ∧ b ≠ B) → b < w1.heap.size → W.heap[b]? = w1.heap[b]? := fun b h1 h2 => by
    rw [n5 b h1.2 (by omega), hb3.block b (by omega), hb2.block b (by simp; omega), Below.heap_alloc w1 o b h2]
  have hl' : (fs.set j ⟨q, x, lx, fx⟩).length = v.fields.length := by rw [List.length_set, hfl]
  refine ⟨⟨es, e1, e2.move fun b h1 h2 => ⟨by omega, old b h1 h2⟩, fun e he => ((e3 e he).move fun b h1 h2 => ⟨by omega, old b h1 h2⟩ : Rep _ n W _ _ _).up⟩, ⟨fs.set j ⟨q, x, lx, fx⟩, ?_, ?_, fun u hu => ?_⟩⟩
  · rw [List.map_set, f1]; rfl
  · have hs : cur'.size = v.fields.length * 6 := by rw [← Array.length_toList, hc2, encFs_length, List.length_set, hfl]
    rw [hl', ← hq]
    refine ⟨⟨by rw [encFs_length, List.length_set, hfl], .inr ⟨B, _, cur', rfl, Nat.zero_le _, nB, Nat.le_refl _, by unfold maxLen; omega, hs, ?_⟩⟩, hnl, fun b hb => by cases hb; show w.heap.size ≤ B; omega⟩
    rw [← hs, ← Array.length_toList, List.take_length, hc2]
  · rcases List.mem_or_eq_of_mem_set hu with hu | rfl
    · exact ((f4 u hu).move fun b h1 h2 => ⟨by omega, old b h1 h2⟩ : Rep _ n W _ _ _).up
    · refine hrx.move fun b h1 h2 => ?_
      have h1' : w2.heap.size ≤ b := h1
      exact ⟨by omega, n5 b (by omega) (by omega)⟩

set_option maxHeartbeats 2000000 in
theorem Set_there (n : Nat) (v x : V) (l f xl xf : Value) (name : ByteArray) (w : World) (hv : Lies n w v l f) (hx : Lies n w x xl xf) (hk : v.kind = 5) (j : Nat) (q : ByteArray) (y : V) (hj : whereI (isName name) v.fields = j) (hjy : v.fields[j]? = some (q, y)) :
    Calls Tryz.prog 39 #[.agg #[.int .i64 v.kind, .int .i64 v.num, .string v.text, l, f], .string name, .agg #[.int .i64 x.kind, .int .i64 x.num, .string x.text, xl, xf]] w fun r w' => ∃ l' f', r = .returned (.agg #[.int .i64 v.kind, .int .i64 v.num, .string v.text, l', f']) ∧ GotV (n + 2) w w' { v with fields := v.fields.set j (q, x) } l' f' := by
  have hB : ∀ (o1 o2 o3 : Obj), Below w.heap.size w (((w.alloc o1).alloc o2).alloc o3) := fun o1 o2 o3 => (((Below.refl _ _).alloc (Nat.le_refl _) _).alloc (by simp) _).alloc (by simp; omega) _
  have hcall := fun W (hW : Below w.heap.size w W) => twinValue_any n v l f W (hv.below hW)
  have hcallx := fun W (hW : Below w.heap.size w W) => twinValue_any n x xl xf W (hx.below hW)
  have hplace := fun W (hW : Below w.heap.size w W) => place_any n v l f name W (Rep.up (hv.below hW))
  simp only [hk, if_true, hj] at hplace
  obtain ⟨a1, c1, a3, c3, rfl, rfl⟩ := Rep.slices hv
  obtain ⟨a5, c5, a7, c7, rfl, rfl⟩ := Rep.slices hx
  have hjl : j < v.fields.length := (List.getElem?_eq_some_iff.1 hjy).1
  have zj : (j : Int) < (v.fields.length : Int) := by omega
  rw [hk] at hcall ⊢
  clear hv hx hj
  go_enter Tryz.func39, Tryz.ntmps39
  go_wp2_with fail
  refine (hcall _ (hB _ _ _)).mono ?_
  rintro e w1 ⟨l', f', rfl, hcp, hb1⟩
  have hrep := hcp.rep
  obtain ⟨al', cl', af', cf', rfl, rfl⟩ := hrep.slices
  obtain ⟨B, hBB, ⟨es, e1, e2, e3⟩, ⟨fs, f1, f2, f3, f4⟩⟩ := hcp
  have hfl : fs.length = v.fields.length := by rw [← f1, List.length_map]
  rw [hfl] at f2
  obtain ⟨hsl, cur, hcg, hcur⟩ := f2.full f3 (.inl (by omega))
  have hnl : v.fields.length ≤ 1000000 := f2.2.1
  simp only [Value.slice.injEq, true_and] at hsl
  obtain ⟨rfl, rfl⟩ := hsl
  have p1 := row_below hb1 heap_alloc3_0
  have r1 := row_below hb1 heap_alloc3_1
  have q1 := row_below hb1 heap_alloc3_2
  obtain ⟨k0, k1, k2, k3, k4, kf⟩ := row5 p1
  have hz1 : w.heap.size + 2 < w1.heap.size := lt_of_heap q1
  have hz2 : w.heap.size < w1.heap.size := lt_of_heap p1
  have hB1 : Below w.heap.size w w1 := (hB _ _ _).trans (hb1.mono (hB _ _ _).size)
  have hB1a : ∀ o, Below w.heap.size w (w1.alloc o) := fun o => hB1.alloc (by omega) _
  have S := (show Hid _ from And.intro hb1 (And.intro e2 (And.intro e3 (And.intro f4 (And.intro hcg (And.intro p1 (And.intro r1 q1)))))))
  clear hrep hb1 e2 e3 f2 f3 f4 hcg p1 r1 q1
  go_wp2_with fail
  refine (hplace _ (hB1a _)).mono ?_
  rintro e w2 ⟨rfl, hb2⟩
  obtain ⟨hb1, e2, e3, f4, hcg, p1, r1, q1⟩ := S.out
  have hl1 : ∀ (o : Obj) (b : Nat), b < w1.heap.size → (w1.alloc o).heap[b]? = w1.heap[b]? := fun o b h => Below.heap_alloc w1 o b h
  have g2 := row_below hb2 (heap_alloc_new w1 _)
  have r2 := row_below hb2 ((hl1 _ _ (lt_of_heap r1)).trans r1)
  have q2 := row_below hb2 ((hl1 _ _ (lt_of_heap q1)).trans q1)
  have c2 := row_below hb2 ((hl1 _ _ (lt_of_heap hcg)).trans hcg)
  obtain ⟨x0, x1, x2, x3, x4, xfz⟩ := row5 r2
  obtain ⟨u0, u1, u2, u3, u4, ufz⟩ := row5 g2
  have hB2 : Below w.heap.size w w2 := (hB1a _).trans (hb2.mono (hB1a _).size)
  have hB2d : Below w.heap.size w w2.drew := hB2.drew
  have T := (show Hid _ from And.intro hb2 (And.intro g2 (And.intro q2 c2)))
  have zw2 : w1.heap.size < w2.heap.size := lt_of_heap g2
  have zB : B < w1.heap.size := lt_of_heap hcg
  have zB3 : w.heap.size + 1 + 1 < B := by simp at hBB; omega
  have zB4 : w.heap.size + 1 < B := by omega
  clear hb1 e2 e3 f4 hcg p1 r1 q1 hb2 g2 r2 q2 c2 k0 k1 k2 k3 k4 kf
  go_wp2_with fail
  go_region_with (go_at_call 19; refine (hcallx _ hB2d).mono ?_; rintro e w3 ⟨lx, fx, rfl, hcx, hb3⟩; have hrx := hcx.rep; obtain ⟨bl, dl, bf, df, rfl, rfl⟩ := hrx.slices; obtain ⟨hb2, g2, q2, c2⟩ := T.out; have hb3' := below_of_drew hb3; have g3 := row_below hb3' g2; have q3 := row_below hb3' q2; have c3 := row_below hb3' c2; obtain ⟨o0, o1, o2, o3, o4, ofz⟩ := row5 q3; obtain ⟨y0, y1, y2, y3, y4, yfz⟩ := row5 g3; have hs3 : cur.size = v.fields.length * 6 := (by rw [← Array.length_toList, hcur, encFs_length, hfl]); obtain ⟨m1, n1⟩ := cell_row c3 (i := j * 6 + 1) (by omega); obtain ⟨m2, n2⟩ := cell_row c3 (i := j * 6 + 2) (by omega); obtain ⟨m3, n3⟩ := cell_row c3 (i := j * 6 + 3) (by omega); obtain ⟨m4, n4⟩ := cell_row c3 (i := j * 6 + 4) (by omega); obtain ⟨m5, n5⟩ := cell_row c3 (i := j * 6 + 5) (by omega); have nf := frozen_row c3; have U := (show Hid _ from And.intro hrx (And.intro hb3' (And.intro q3 c3))); have zw3 : w1.heap.size < w3.heap.size := lt_of_heap g3; clear hcx hrx hb3 hb3' hb2 g2 q2 c2 g3 q3 c3 hs3)
  all_goals
    go_wp2
    refine bodyPost_ret (v := .agg #[.int .i64 5, .int .i64 v.num, .string v.text, .slice al' v.list.length cl', .slice (some ⟨B, 0, none⟩) v.fields.length v.fields.length]) (by simp [results, Tryz.results39, go_sem, o0, o1, o2, o3, o4]) rfl ⟨_, _, rfl, ?_, ?_⟩
    · exact set_there_rep S.out.2.1 S.out.2.2.1 S.out.2.2.2.1 T.out.1 U.out.2.1 U.out.2.2.2 U.out.1 e1 f1 hfl hnl hcur hjy zB zB3 hB1.size
    · have hB3 := hB2.trans (U.out.2.1.mono hB2.size)
      exact set5W_below (set5W_below hB3 (by omega) _ _ _ _ _ _ _ _ _ _) (by omega) _ _ _ _ _ _ _ _ _ _
end Go.Proofs.YtgcccihnlecpnaaGreatDoor
