/-
  The law's at by its contract. Conditions: as stated (lists of at most ten values).
-/
import Derived.Test.YtgcccihnlecpnaaGreatDoorPUp
import Derived.Test.YtgcccihnlecpnaaGreatDoorPFind2
import Derived.Test.YtgcccihnlecpnaaGreatDoorVDoc
namespace Go.Proofs.YtgcccihnlecpnaaGreatDoor
open Go.RowKit

theorem digs_small : ∀ i : Fin 10, Lib.decDigits i.val = [UInt8.ofNat (48 + i.val)] := by
  intro i
  rw [Lib.decDigits, dif_pos i.isLt]
theorem itoa_small (j : Nat) (h : j < 10) : Lib.itoa (j : Int) = [UInt8.ofNat (48 + j)] := by
  unfold Lib.itoa
  rw [if_neg (by omega)]
  exact digs_small ⟨j, h⟩
theorem place_digit : ∀ i : Fin 10, Lib.atoiAll [UInt8.ofNat (48 + i.val)] = .ok (i.val : Int) := by decide +kernel
/-- a digit is the place that it tells. -/
theorem dig_place (j : Nat) (h : j < 10) (part : ByteArray) : part.data.toList = [UInt8.ofNat (48 + j)] ↔ placeOf part = some j := by
  constructor
  · intro e
    unfold placeOf
    rw [e, place_digit ⟨j, h⟩]
    show (if 0 ≤ (j : Int) ∧ Lib.itoa (j : Int) = _ then _ else _) = _
    rw [if_pos ⟨by omega, itoa_small j h⟩]
    rfl
  · intro e
    unfold placeOf at e
    split at e
    · rename_i k _
      split at e
      · rename_i hk
        simp only [Option.some.injEq] at e
        rw [← hk.2, show k = (j : Int) by omega]
        exact itoa_small j h
      · cases e
    · cases e
def ten : ByteArray := ⟨#[48, 49, 50, 51, 52, 53, 54, 55, 56, 57]⟩
theorem ten_digit : ∀ i : Fin 10, ten.extract i.val (i.val + 1) = ⟨#[UInt8.ofNat (48 + i.val)]⟩ := by decide +kernel
theorem slice_dig (j : Nat) (h : j < 10) (W : World) : (Instr.slice 9 (.string ⟨#[48, 49, 50, 51, 52, 53, 54, 55, 56, 57]⟩) (some (.int .i64 (j : Int))) (some (.int .i64 ((j : Int) + 1))) none).run Tryz.prog W = .ok (.string ⟨#[UInt8.ofNat (48 + j)]⟩) W := by
  have e := ten_digit ⟨j, h⟩
  have hz : (((⟨#[48, 49, 50, 51, 52, 53, 54, 55, 56, 57]⟩ : ByteArray).size : Nat) : Int) = 10 := rfl
  rw [run_slice_string (P := Tryz.prog) W 9 _ .i64 .i64 _ _ Tryz.underlying9 (by omega) (by omega) (by rw [hz]; omega)]
  have e1 : ((j : Int)).toNat = j := by omega
  have e2 : ((j : Int) + 1).toNat = j + 1 := by omega
  rw [e1, e2]
  exact congrArg (fun b => Result.ok (Value.string b) W) e
theorem eq_dig (j : Nat) (part : ByteArray) : (part.toList == (⟨#[UInt8.ofNat (48 + j)]⟩ : ByteArray).toList) = decide (part.data.toList = [UInt8.ofNat (48 + j)]) := by
  rw [ByteArray.toList_eq, ByteArray.toList_eq, Bool.eq_iff_iff, beq_iff_eq, decide_eq_true_iff]

/-- what at tells. -/
def GotAns (w0 w w' : World) (r : Option V) (e : Ending) : Prop :=
  ∃ l' f' m, e = .returned (.tuple #[.agg #[.int .i64 (r.getD zeroV).kind, .int .i64 (r.getD zeroV).num, .string (r.getD zeroV).text, l', f'], .bool r.isSome]) ∧ Lies m w0 (r.getD zeroV) l' f' ∧ Below w.heap.size w w'

set_option maxRecDepth 100000 in
set_option maxHeartbeats 4000000 in
theorem at6_any (n : Nat) (v : V) (l f : Value) (part : ByteArray) (w0 w : World) (hB0 : Below w0.heap.size w0 w) (hL : Lies n w0 v l f) (h10 : v.kind = 4 → v.list.length ≤ 10) :
    Calls Tryz.prog 20 #[.agg #[.int .i64 v.kind, .int .i64 v.num, .string v.text, l, f], .string part] w fun e w' => GotAns w0 w w' (atP v part) e := by
  obtain ⟨⟨es, e1, e2, e3⟩, ⟨fs, f1, f2, f3⟩⟩ := Rep.up hL
  have hel : es.length = v.list.length := by rw [← e1, List.length_map]
  have hfl : fs.length = v.fields.length := by rw [← f1, List.length_map]
  rw [hel] at e2
  rw [hfl] at f2
  obtain ⟨a1, c1, a3, c3, rfl, rfl⟩ := Rep.slices hL
  obtain ⟨O1, hO1⟩ : ∃ O, Obj.cells #[.int .i64 v.kind, .int .i64 v.num, .string v.text, .slice a1 v.list.length c1, .slice a3 v.fields.length c3] 28 = O := ⟨_, rfl⟩
  obtain ⟨O2, hO2⟩ : ∃ O, Obj.cells #[.int .i64 0, .int .i64 0, .string ⟨#[]⟩, .slice none 0 0, .slice none 0 0] 28 = O := ⟨_, rfl⟩
  obtain ⟨W2, hW2⟩ : ∃ W, (w.alloc O1).alloc O2 = W := ⟨_, rfl⟩
  have hB2 : Below w.heap.size w W2 := by rw [← hW2]; exact ((Below.refl _ _).alloc (Nat.le_refl _) _).alloc (by simp) _
  have r0 : W2.heap[w.heap.size]? = some O1 := by rw [← hW2]; exact heap_alloc2_old
  have r1 : W2.heap[w.heap.size + 1]? = some O2 := by rw [← hW2]; exact heap_alloc2_new
  have hsz2 : W2.heap.size = w.heap.size + 2 := by rw [← hW2]; simp
  rw [← hO1] at r0
  rw [← hO2] at r1
  obtain ⟨x0, x1, x2, x3, x4, xf⟩ := row5 r0
  obtain ⟨y0, y1, y2, y3, y4, yf⟩ := row5 r1
  rw [← hO1, ← hO2] at hW2
  have nel := e2.2.1
  have nfl := f2.2.1
  have HH := (show Hid _ from And.intro hL (And.intro e1 (And.intro e2 (And.intro e3 (And.intro f1 (And.intro f2 (And.intro f3 (And.intro hB2 (And.intro r0 r1)))))))))
  clear hO1 hO2 hL e1 e2 e3 f1 f2 f3 hB2 r0 r1 O1 O2
  by_cases h5 : v.kind = 5
  · have hatH := (show Hid _ from at5 h5 part)
    rw [h5] at x0 hW2 ⊢
    go_enter Tryz.func20, Tryz.ntmps20
    go_wp2
    go_loopg [7, 16] v.fields.length (fun gg _ i wr => ∃ k : Nat, k ≤ v.fields.length ∧ v.fields.length - k ≤ gg ∧ i = .int .i64 k ∧ Aside (Below W2.heap.size W2 wr ∧ ∀ j q, j < k → v.fields[j]? = some q → isName part q = false))
    case atStart => exact ⟨0, Nat.zero_le _, by omega, rfl, Below.refl _ _, fun j _ hj => absurd hj (Nat.not_lt_zero _)⟩
    case round =>
      obtain ⟨k, hk, hgg, rfl, A⟩ := hrel
      by_cases hlt : k < v.fields.length
      · obtain ⟨hL, e1, e2, e3, f1, f2, f3, hB2, r0, r1⟩ := HH.out
        obtain ⟨hBr, hno⟩ := A.out
        have hBw := hB2.trans (hBr.mono hB2.size)
        obtain ⟨C, c', e0, -, -, hc1, hc2, -⟩ := f2.cells (by omega)
        simp only [Value.slice.injEq] at e0
        obtain ⟨rfl, -, rfl⟩ := e0
        obtain ⟨⟨xn, xv, xl, xfv⟩, hx⟩ : ∃ x, fs[k]? = some x := ⟨_, List.getElem?_eq_getElem (by omega)⟩
        obtain ⟨b0, b1, b2, b3, b4, b5⟩ := (f2.move (fun b _ hl => ⟨trivial, (hB0.trans (hBw.mono hB0.size)).block b hl⟩) : RowAt (fun _ => True) wr _ _ _ _ _).fl hx
        have hxp : v.fields[k]? = some (xn, xv) := by rw [← f1, List.getElem?_map, hx]; rfl
        have hlx : Lies n w0 xv xl xfv := f3 _ (List.mem_of_getElem? hx)
        simp only at b0 b1 b2 b3 b4 b5
        obtain ⟨al, cl, af, cf, rfl, rfl⟩ := hlx.slices
        obtain ⟨W3, hW3⟩ : ∃ W, wr.alloc (.cells #[.string xn, .int .i64 xv.kind, .int .i64 xv.num, .string xv.text, .slice al xv.list.length cl, .slice af xv.fields.length cf] 44) = W := ⟨_, rfl⟩
        have hB3 : Below wr.heap.size wr W3 := by rw [← hW3]; exact (Below.refl _ _).alloc (Nat.le_refl _) _
        have hBw3 : Below w.heap.size w W3 := hBw.trans (hB3.mono hBw.size)
        have hBr3 : Below W2.heap.size W2 W3 := hBr.trans (hB3.mono hBr.size)
        have u1 := (hBr3.block _ (lt_of_heap r1)).trans r1
        obtain ⟨z0, z1, z2, z3, z4, zf⟩ := row5 u1
        have u2 : W3.heap[wr.heap.size]? = some (.cells #[.string xn, .int .i64 xv.kind, .int .i64 xv.num, .string xv.text, .slice al xv.list.length cl, .slice af xv.fields.length cf] 44) := by rw [← hW3]; exact heap_alloc_new wr _
        obtain ⟨t0, t1, t2, t3, t4, t5, tf⟩ := row6 u2
        have zk : (k : Int) < (v.fields.length : Int) := by omega
        have heq := beq_cmpT xn part
        have T := (show Hid _ from And.intro hlx (And.intro hBw3 (And.intro hxp hBr3)))
        clear hL e1 e2 e3 f1 f2 f3 hB2 r0 r1 hBr hBw hx hlx u1 hno hxp u2 hB3 hBw3 hBr3
        by_cases hc : cmpT xn part = 0
        · rw [decide_eq_true hc] at heq
          go_wp2
          refine bodyPost_ret (v := .tuple #[.agg #[.int .i64 xv.kind, .int .i64 xv.num, .string xv.text, .slice al xv.list.length cl, .slice af xv.fields.length cf], .bool true]) (by simp [results, Tryz.results20, go_sem, z0, z1, z2, z3, z4]) rfl ?_
          obtain ⟨hlx, hBw3, hxp, hBr3⟩ := T.out
          have hg : atP v part = some xv := by
            rw [hatH.out]
            rcases where_name part v.fields with ⟨g1, g2⟩ | ⟨j', q', y', g1, g2, g3, _⟩
            · have := whereI_hit (isName part) k v.fields _ hxp (decide_eq_true hc) A.out.2
              rw [g1] at this; omega
            · have := whereI_hit (isName part) k v.fields _ hxp (decide_eq_true hc) A.out.2
              obtain rfl : j' = k := by rw [g1] at this; omega
              rw [hxp] at g2
              cases g2
              exact g3
          rw [hg]
          have hfin := set5W_below hBw3 (Nat.le_succ _) 0 1 2 3 4 (.int .i64 xv.kind) (.int .i64 xv.num) (.string xv.text) (.slice al xv.list.length cl) (.slice af xv.fields.length cf)
          exact ⟨_, _, n, rfl, hlx, hfin⟩
        · rw [decide_eq_false hc] at heq
          go_wp2
          go_roundg (v.fields.length - (k + 1))
          case measure => omega
          case rel =>
            obtain ⟨hlx, hBw3, hxp, hBr3⟩ := T.out
            refine ⟨k + 1, by omega, by omega, by go_num, (show Aside _ from ⟨hBr3, fun j q hj hq => ?_⟩)⟩
            by_cases e : j = k
            · subst e
              rw [hxp] at hq
              cases hq
              exact decide_eq_false hc
            · exact A.out.2 j q (by omega) hq
      · have zk : ¬ (k : Int) < (v.fields.length : Int) := by omega
        obtain ⟨hL, e1, e2, e3, f1, f2, f3, hB2, r0, r1⟩ := HH.out
        obtain ⟨hBr, hno⟩ := A.out
        have hBw := hB2.trans (hBr.mono hB2.size)
        have u1 := (hBr.block _ (lt_of_heap r1)).trans r1
        obtain ⟨z0, z1, z2, z3, z4, zf⟩ := row5 u1
        have u0 := (hBr.block _ (lt_of_heap r0)).trans r0
        rw [h5] at u0
        obtain ⟨t0, t1, t2, t3, t4, tf⟩ := row5 u0
        have hg : atP v part = none := by
          rw [hatH.out]
          rcases where_name part v.fields with ⟨g1, g2⟩ | ⟨j', q', y', g1, g2, g3, _⟩
          · exact g2
          · have h0 := whereI_miss (isName part) v.fields fun y hy => by
              obtain ⟨j, hj⟩ := List.mem_iff_getElem?.1 hy
              exact hno j y (by have := (List.getElem?_eq_some_iff.1 hj).1; omega) hj
            rw [g1] at h0; omega
        have T := (show Hid _ from And.intro hBw hg)
        clear hL e1 e2 e3 f1 f2 f3 hB2 r0 r1 hBr hBw u1 u0 hno hg
        go_wp2
        refine bodyPost_ret (v := .tuple #[.agg #[.int .i64 0, .int .i64 0, .string ⟨#[]⟩, .slice none 0 0, .slice none 0 0], .bool false]) (by simp [results, Tryz.results20, go_sem, z0, z1, z2, z3, z4]) rfl ?_
        rw [T.out.2]
        exact ⟨_, _, 0, rfl, ⟨rfl, rfl, rfl, rfl⟩, set5W_below T.out.1 (Nat.le_succ _) 0 1 2 3 4 _ _ _ _ _⟩
  by_cases h4 : v.kind = 4
  · have hatH := (show Hid _ from at4 h4 part)
    have hl10 := h10 h4
    rw [h4] at x0 hW2 ⊢
    go_enter Tryz.func20, Tryz.ntmps20
    go_wp2
    go_loopg [8, 9, 33] v.list.length (fun gg _ _ i wr => ∃ k : Nat, k ≤ v.list.length ∧ v.list.length - k ≤ gg ∧ i = .int .i64 k ∧ Aside (Below W2.heap.size W2 wr ∧ ∀ j, j < k → ¬ placeOf part = some j))
    case atStart => exact ⟨0, Nat.zero_le _, by omega, rfl, Below.refl _ _, fun j hj => absurd hj (Nat.not_lt_zero _)⟩
    case round =>
      obtain ⟨k, hk, hgg, rfl, A⟩ := hrel
      by_cases hlt : k < v.list.length
      · obtain ⟨hL, e1, e2, e3, f1, f2, f3, hB2, r0, r1⟩ := HH.out
        obtain ⟨hBr, hno⟩ := A.out
        have hBw := hB2.trans (hBr.mono hB2.size)
        obtain ⟨C, c', e0, -, -, hc1, hc2, -⟩ := e2.cells (by omega)
        simp only [Value.slice.injEq] at e0
        obtain ⟨rfl, -, rfl⟩ := e0
        obtain ⟨⟨xv, xl, xfv⟩, hx⟩ : ∃ x, es[k]? = some x := ⟨_, List.getElem?_eq_getElem (by omega)⟩
        obtain ⟨b0, b1, b2, b3, b4⟩ := (e2.move (fun b _ hl => ⟨trivial, (hB0.trans (hBw.mono hB0.size)).block b hl⟩) : RowAt (fun _ => True) wr _ _ _ _ _).el hx
        have hxp : v.list[k]? = some xv := by rw [← e1, List.getElem?_map, hx]; rfl
        have hlx : Lies n w0 xv xl xfv := e3 _ (List.mem_of_getElem? hx)
        simp only at b0 b1 b2 b3 b4
        obtain ⟨al, cl, af, cf, rfl, rfl⟩ := hlx.slices
        obtain ⟨W3, hW3⟩ : ∃ W, wr.alloc (.cells #[.int .i64 xv.kind, .int .i64 xv.num, .string xv.text, .slice al xv.list.length cl, .slice af xv.fields.length cf] 28) = W := ⟨_, rfl⟩
        have hB3 : Below wr.heap.size wr W3 := by rw [← hW3]; exact (Below.refl _ _).alloc (Nat.le_refl _) _
        have hBw3 : Below w.heap.size w W3 := hBw.trans (hB3.mono hBw.size)
        have hBr3 : Below W2.heap.size W2 W3 := hBr.trans (hB3.mono hBr.size)
        have u1 := (hBr3.block _ (lt_of_heap r1)).trans r1
        obtain ⟨z0, z1, z2, z3, z4, zf⟩ := row5 u1
        have u2 : W3.heap[wr.heap.size]? = some (.cells #[.int .i64 xv.kind, .int .i64 xv.num, .string xv.text, .slice al xv.list.length cl, .slice af xv.fields.length cf] 28) := by rw [← hW3]; exact heap_alloc_new wr _
        obtain ⟨t0, t1, t2, t3, t4, tf⟩ := row5 u2
        have zk : (k : Int) < (v.list.length : Int) := by omega
        have zk10 : (k : Int) < 10 := by omega
        have zk0 : (0 : Int) ≤ (k : Int) := by omega
        have hsl := slice_dig k (by omega)
        have heq := eq_dig k part
        have hdp := dig_place k (by omega) part
        have T := (show Hid _ from And.intro hlx (And.intro hBw3 (And.intro hxp hBr3)))
        generalize (⟨#[UInt8.ofNat (48 + k)]⟩ : ByteArray) = E at heq hsl
        clear hL e1 e2 e3 f1 f2 f3 hB2 r0 r1 hBr hBw hx hlx u1 hno hxp u2 hB3 hBw3 hBr3
        by_cases hc : placeOf part = some k
        · rw [decide_eq_true (hdp.2 hc)] at heq
          clear hdp
          go_wp2
          refine bodyPost_ret (v := .tuple #[.agg #[.int .i64 xv.kind, .int .i64 xv.num, .string xv.text, .slice al xv.list.length cl, .slice af xv.fields.length cf], .bool true]) (by simp [results, Tryz.results20, go_sem, z0, z1, z2, z3, z4]) rfl ?_
          obtain ⟨hlx, hBw3, hxp, hBr3⟩ := T.out
          have hg : atP v part = some xv := by rw [hatH.out, hc, Option.bind_some, hxp]
          rw [hg]
          have hfin := set5W_below hBw3 (Nat.le_succ _) 0 1 2 3 4 (.int .i64 xv.kind) (.int .i64 xv.num) (.string xv.text) (.slice al xv.list.length cl) (.slice af xv.fields.length cf)
          exact ⟨_, _, n, rfl, hlx, hfin⟩
        · rw [decide_eq_false fun h => hc (hdp.1 h)] at heq
          clear hdp
          go_wp2
          go_roundg (v.list.length - (k + 1))
          case measure => omega
          case rel =>
            obtain ⟨hlx, hBw3, hxp, hBr3⟩ := T.out
            refine ⟨k + 1, by omega, by omega, by go_num, (show Aside _ from ⟨hBr3, fun j hj => ?_⟩)⟩
            by_cases e : j = k
            · subst e; exact hc
            · exact A.out.2 j (by omega)
      · have zk : ¬ (k : Int) < (v.list.length : Int) := by omega
        obtain ⟨hL, e1, e2, e3, f1, f2, f3, hB2, r0, r1⟩ := HH.out
        obtain ⟨hBr, hno⟩ := A.out
        have hBw := hB2.trans (hBr.mono hB2.size)
        have u1 := (hBr.block _ (lt_of_heap r1)).trans r1
        obtain ⟨z0, z1, z2, z3, z4, zf⟩ := row5 u1
        have hg : atP v part = none := by
          rw [hatH.out]
          rcases hp : placeOf part with _ | i
          · rfl
          · rw [Option.bind_some]
            refine List.getElem?_eq_none ?_
            rcases Nat.lt_or_ge i v.list.length with h | h
            · exact absurd hp (hno i (by omega))
            · exact h
        have T := (show Hid _ from And.intro hBw hg)
        clear hL e1 e2 e3 f1 f2 f3 hB2 r0 r1 hBr hBw u1 hno hg
        go_wp2
        refine bodyPost_ret (v := .tuple #[.agg #[.int .i64 0, .int .i64 0, .string ⟨#[]⟩, .slice none 0 0, .slice none 0 0], .bool false]) (by simp [results, Tryz.results20, go_sem, z0, z1, z2, z3, z4]) rfl ?_
        rw [T.out.2]
        exact ⟨_, _, 0, rfl, ⟨rfl, rfl, rfl, rfl⟩, set5W_below T.out.1 (Nat.le_succ _) 0 1 2 3 4 _ _ _ _ _⟩
  · have hatH := (show Hid _ from at_none h5 h4 part)
    have e5 : (v.kind == 5) = false := by simpa using h5
    have e4 : (v.kind == 4) = false := by simpa using h4
    go_enter Tryz.func20, Tryz.ntmps20
    go_wp2
    refine bodyPost_ret (v := .tuple #[.agg #[.int .i64 0, .int .i64 0, .string ⟨#[]⟩, .slice none 0 0, .slice none 0 0], .bool false]) (by simp [results, Tryz.results20, go_sem, y0, y1, y2, y3, y4]) rfl ?_
    obtain ⟨hL, e1, e2, e3, f1, f2, f3, hB2, r0, r1⟩ := HH.out
    rw [hatH.out]
    exact ⟨_, _, 0, rfl, ⟨rfl, rfl, rfl, rfl⟩, set5W_below hB2 (Nat.le_succ _) 0 1 2 3 4 _ _ _ _ _⟩
end Go.Proofs.YtgcccihnlecpnaaGreatDoor
