/-
  Package fault's itself, Code and Fault.Error by their contracts. No conditions beyond those stated.
-/
import Derived.Test.YtobdgdbdibnlgaaDoorMid
import Derived.Test.YtobdgdbdibnlgaaDoorShelf
namespace Go.Proofs.YtobdgdbdibnlgaaDoor
open Go.RowKit Go.Extern.Stop Go.Stop Go.Extern

theorem below_ownsRow {w w' : World} {base : Nat} {e : TypeId} {size : Nat} {v : Value} {n : Nat} {xs : List Value} (h : w.ownsRow base e size v n xs) (hb : Below w.heap.size w w') : w'.ownsRow base e size v n xs :=
  h.kept (row := none) ⟨hb.os, hb.tape, hb.output, hb.size, fun k hk _ => hb.block k hk⟩ (by cases v.ownBlock <;> simp)
theorem below_builder {T e : TypeId} {B b : Nat} {p : Value} {bs : List Value} {w w' : World} (h : Lib.BuilderAt T e B b p bs w) (hb : Below w.heap.size w w') : Lib.BuilderAt T e B b p bs w' := by
  have hl := h.lt
  obtain ⟨h1, v, h2, h3, h4⟩ := h
  exact ⟨h1, v, by rw [hb.block b hl]; exact h2, below_ownsRow h3 hb, h4⟩

/-- what a store into the target leaves. -/
theorem set_cell {w w1 : World} {t : Addr} {old v : Value} (hb : Below w.heap.size w w1) (ht : w.cell? t = some old) : (w1.setCell t v).cell? t = some v :=
  World.cell?_setCell_same _ _ _ (hb.cell (lt_of_cell ht) ▸ ht)

theorem Code_none (w : World) : Calls Tryd.prog 11 #[.nilIface] w fun e w' => e = .returned (.int .i64 0) ∧ w' = w := by
  go_enter Tryd.func11, Tryd.ntmps11
  go_wp2
  go_ret
  exact ⟨rfl, rfl⟩

set_option maxHeartbeats 1000000 in
theorem Code_some (ps : List ByteArray) (c : Int) (v : Value) (w : World) (hg : Handle w) (hch : Chain w (.iface 27 (.int .i64 c)) ps v) :
    Calls Tryd.prog 11 #[v] w fun e w' => e = .returned (.int .i64 c) ∧ Below w.heap.size w w' := by
  obtain ⟨u, z, rfl⟩ := hch.iface
  have hB : Below w.heap.size w (w.alloc (.cells #[.int .i64 0] 27)) := (Below.refl _ _).alloc (Nat.le_refl _) _
  have ht : (w.alloc (.cells #[.int .i64 0] 27)).cell? ⟨w.heap.size, 0, none⟩ = some (.int .i64 0) := by simp
  have hf : (w.alloc (.cells #[.int .i64 0] 27)).frozen? ⟨w.heap.size, 0, none⟩ = false := by simp
  go_enter Tryd.func11, Tryd.ntmps11
  go_wp2_with fail
  refine (As_code ps c _ ⟨w.heap.size, 0, none⟩ (.int .i64 0) _ (hg.below hB) (hch.below hB) ht hf).mono ?_
  rintro e w' ⟨rfl, w1, hb1, rfl⟩
  have hc := set_cell (v := .int .i64 c) hb1 ht
  have hb2 : Below w.heap.size w (w1.setCell ⟨w.heap.size, 0, none⟩ (.int .i64 c)) := (hB.trans (hb1.mono (by simp))).setCell (Nat.le_refl _) _
  clear hb1 hf ht
  generalize w1.setCell ⟨w.heap.size, 0, none⟩ (.int .i64 c) = W2 at *
  go_wp2
  go_ret
  exact ⟨rfl, hb2⟩

set_option maxHeartbeats 1000000 in
theorem Code_other (ps : List ByteArray) (y : Value) (v : Value) (w : World) (hg : Handle w) (hch : Chain w (.iface 35 y) ps v) :
    Calls Tryd.prog 11 #[v] w fun e w' => e = .returned (.int .i64 99) ∧ Below w.heap.size w w' := by
  obtain ⟨u, z, rfl⟩ := hch.iface
  have hB : Below w.heap.size w (w.alloc (.cells #[.int .i64 0] 27)) := (Below.refl _ _).alloc (Nat.le_refl _) _
  go_enter Tryd.func11, Tryd.ntmps11
  go_wp2_with fail
  refine (As_code_other ps y _ ⟨w.heap.size, 0, none⟩ _ (hg.below hB) (hch.below hB)).mono ?_
  rintro e w' ⟨rfl, hb1⟩
  go_wp2
  go_ret
  exact ⟨rfl, hB.trans (hb1.mono (by simp))⟩

set_option maxHeartbeats 1000000 in
theorem itself_fault (e : Addr) (w : World) (hg : Handle w) :
    Calls Tryd.prog 23 #[.iface 39 (.pointer (some e))] w fun ev w' => ev = .returned (.tuple #[.pointer (some e), .bool true]) ∧ Below w.heap.size w w' := by
  obtain ⟨i, hi, hcmp⟩ := Option.map_eq_some_iff.1 Tryd.comp39
  obtain ⟨j, hj, hjs⟩ := Option.map_eq_some_iff.1 Tryd.size41
  have heq := fun W => run_eql_iface_ptr_same (P := Tryd.prog) W e Tryd.underlying25 Tryd.underlying39 hi hcmp hj
  have hB : Below w.heap.size w (w.alloc (.cells #[.pointer none] 39)) := (Below.refl _ _).alloc (Nat.le_refl _) _
  have ht : (w.alloc (.cells #[.pointer none] 39)).cell? ⟨w.heap.size, 0, none⟩ = some (.pointer none) := by simp
  have hf : (w.alloc (.cells #[.pointer none] 39)).frozen? ⟨w.heap.size, 0, none⟩ = false := by simp
  go_enter Tryd.func23, Tryd.ntmps23
  go_wp2_with fail
  refine (As_fault_hit e ⟨w.heap.size, 0, none⟩ (.pointer none) _ (hg.below hB) ht hf).mono ?_
  rintro ev w' ⟨rfl, w1, hb1, rfl⟩
  have hc := set_cell (v := .pointer (some e)) hb1 ht
  have hb2 : Below w.heap.size w (w1.setCell ⟨w.heap.size, 0, none⟩ (.pointer (some e))) := (hB.trans (hb1.mono (by simp))).setCell (Nat.le_refl _) _
  clear hb1 hf ht
  generalize w1.setCell ⟨w.heap.size, 0, none⟩ (.pointer (some e)) = W2 at *
  go_wp2
  go_ret2
  exact ⟨rfl, hb2⟩

set_option maxHeartbeats 1000000 in
theorem itself_last (y : Value) (hy : Last y) (w : World) (hg : Handle w) :
    Calls Tryd.prog 23 #[y] w fun ev w' => ev = .returned (.tuple #[.pointer none, .bool false]) ∧ Below w.heap.size w w' := by
  have hB : Below w.heap.size w (w.alloc (.cells #[.pointer none] 39)) := (Below.refl _ _).alloc (Nat.le_refl _) _
  go_enter Tryd.func23, Tryd.ntmps23
  go_wp2_with fail
  refine (As_fault_last y hy ⟨w.heap.size, 0, none⟩ _ (hg.below hB)).mono ?_
  rintro ev w' ⟨rfl, hb1⟩
  go_wp2
  go_ret2
  exact ⟨rfl, hB.trans (hb1.mono (by simp))⟩

theorem Itoa_one (w : World) : Calls Tryd.prog 20 #[.int .i64 1] w fun e w' => e = .returned (.string ⟨#[49]⟩) ∧ w' = w := by
  have h := Tryd.strconv_Itoa_small 1 (by decide) w
  have e1 : Lib.decDigits 1 = [49] := by kernel_rfl
  rw [e1] at h
  exact h
theorem Error_one (w : World) : Calls Tryd.prog 13 #[.int .i64 1] w fun e w' => e = .returned (.string ⟨#[101, 114, 114, 111, 114, 32, 49]⟩) ∧ w' = w := by
  go_enter Tryd.func13, Tryd.ntmps13
  go_wp2_with (go_at_call 20; refine (Itoa_one _).mono ?_; rintro e w' ⟨rfl, rfl⟩)
  go_ret
  exact ⟨rfl, rfl⟩

/-- the text of an error: its places, each with a colon and a blank behind it, ahead of the last error's. -/
def txt (s : ByteArray) : List ByteArray → List UInt8
  | [] => s.data.toList
  | p :: ps => p.data.toList ++ ([58, 32] ++ txt s ps)

theorem two_size : (⟨#[58, 32]⟩ : ByteArray).size = 2 := rfl

theorem Chain.head {w : World} {fin : Value} {p : ByteArray} {ps : List ByteArray} {b : Nat} (h : Chain w fin (p :: ps) (.iface 39 (.pointer (some ⟨b, 0, none⟩)))) : ∃ x, w.cell? ⟨b, 0, none⟩ = some (.string p) ∧ w.cell? ⟨b, 1, none⟩ = some x ∧ Chain w fin ps x := by
  obtain ⟨b', x, e, hc, hq⟩ := h
  simp only [Value.iface.injEq, Value.pointer.injEq, Option.some.injEq, Addr.mk.injEq, true_and, and_true] at e
  subst e
  exact ⟨x, cell_of_heap hc rfl, cell_of_heap hc rfl, hq⟩

set_option maxHeartbeats 2000000 in
theorem Fault_Error (c : Int) (s : ByteArray) (p : ByteArray) (ps : List ByteArray) (b : Nat) (w : World) (hg : Handle w) (hch : Chain w (.iface 27 (.int .i64 c)) (p :: ps) (.iface 39 (.pointer (some ⟨b, 0, none⟩))))
    (hE : ∀ W, Below w.heap.size w W → Calls Tryd.prog 13 #[.int .i64 c] W fun e w' => e = .returned (.string s) ∧ Below W.heap.size W w')
    (hlen : (txt s (p :: ps)).length ≤ 140737488355328) :
    Calls Tryd.prog 17 #[.pointer (some ⟨b, 0, none⟩)] w fun e w' => e = .returned (.string ⟨(txt s (p :: ps)).toArray⟩) ∧ Below w.heap.size w w' := by
  have HE : Hid (∀ W, Below w.heap.size w W → Calls Tryd.prog 13 #[.int .i64 c] W fun e w' => e = .returned (.string s) ∧ Below W.heap.size W w') := hE
  clear hE
  have mE := Tryd.methodErrorE
  generalize hfull : txt s (p :: ps) = full at *
  have HF : Hid (txt s (p :: ps) = full) := hfull
  clear hfull
  go_enter Tryd.func17, Tryd.ntmps17
  go_wp2_with fail
  go_loopg [0] ps.length (fun k f wr => Below w.heap.size w wr ∧ ∃ (q : ByteArray) (qs : List ByteArray) (pre : List UInt8) (b' : Nat), qs.length = k ∧ f = .pointer (some ⟨b', 0, none⟩) ∧ Chain w (.iface 27 (.int .i64 c)) (q :: qs) (.iface 39 f) ∧ Lib.IsBuilder 52 5 w.heap.size w.heap.size (Lib.byteCells pre) wr ∧ pre ++ txt s (q :: qs) = full)
  case atStart =>
    refine ⟨(Below.refl _ _).alloc (Nat.le_refl _) _, p, ps, [], b, rfl, rfl, hch, .inl ⟨Nat.le_refl _, .slice none 0 0, by show (w.heap.push _)[w.heap.size]? = _; simp, World.ownsRow_nil _ _ _ _, by simp [Value.ownBlock]⟩, HF.out⟩
  case round =>
    obtain ⟨hB, q, qs, pre, b', hk, rfl, hq, hbu, hpre⟩ := hrel
    have HK : Hid (qs.length = gk) := hk
    have HP : Hid (pre ++ txt s (q :: qs) = full) := hpre
    have hl1 : pre.length + (q.size + (2 + (txt s qs).length)) ≤ 140737488355328 := by
      have := congrArg List.length hpre
      simp [txt] at this
      have hq' : q.data.size = q.size := rfl
      omega
    clear hk hpre hch
    obtain ⟨x, hc0, hc1, hq⟩ := hq.head
    have hlt := lt_of_cell hc0
    have hsz := hB.size
    have h0 : wr.cell? ⟨b', 0, none⟩ = some (.string q) := by rw [hB.cell hlt]; exact hc0
    go_wp2_with fail
    refine (Tryd.Builder_WriteString w.heap.size w.heap.size (Lib.byteCells pre) q _ hbu (by simp [Lib.byteCells]; omega) hsz).mono ?_
    rintro e wA ⟨rfl, hbA, hBA⟩
    have hBA' := hB.trans hBA
    go_wp2_with fail
    refine (Tryd.Builder_WriteString w.heap.size w.heap.size _ _ _ (.inr hbA) (by simp only [List.length_append, Lib.strCells_length, Lib.byteCells, List.length_map, two_size]; omega) hBA'.size).mono ?_
    rintro e wB ⟨rfl, hbB, hBB⟩
    have hBB' := hBA'.trans hBB
    have h1 : wB.cell? ⟨b', 1, none⟩ = some x := by rw [hBB'.cell (p := ⟨b', 1, none⟩) hlt]; exact hc1
    go_wp2_with fail
    cases qs with
    | nil =>
      obtain rfl : x = Value.iface 27 (.int .i64 c) := hq
      refine (itself_last _ (.inl ⟨c, rfl⟩) _ (hg.below hBB')).mono ?_
      rintro ev wC ⟨rfl, hBC⟩
      have hBC' := hBB'.trans (hBC.mono hBB'.size)
      have hbC := below_builder hbB hBC
      have h2 : wC.cell? ⟨b', 1, none⟩ = some (.iface 27 (.int .i64 c)) := by rw [hBC'.cell (p := ⟨b', 1, none⟩) hlt]; exact hc1
      go_wp2_with fail
      refine (HE.out _ hBC').mono ?_
      rintro ev wD ⟨rfl, hBD⟩
      have hBD' := hBC'.trans (hBD.mono hBC'.size)
      have hbD := below_builder hbC hBD
      go_wp2_with fail
      refine (Tryd.Builder_WriteString w.heap.size w.heap.size _ s _ (.inr hbD) (by simp only [List.length_append, Lib.strCells_length, Lib.byteCells, List.length_map, two_size]; simp only [txt, Array.length_toList] at hl1; have hs' : s.data.size = s.size := rfl; omega) hBD'.size).mono ?_
      rintro ev wE ⟨rfl, hbE, hBE⟩
      have hBE' := hBD'.trans hBE
      have eb : Lib.byteCells pre ++ Lib.strCells q ++ Lib.strCells ⟨#[58, 32]⟩ ++ Lib.strCells s = Lib.byteCells full := by
        rw [← HP.out]
        simp [txt, Lib.byteCells, Lib.strCells]
      rw [eb] at hbE
      go_wp2_with fail
      refine (Tryd.Builder_String_any w.heap.size w.heap.size full _ (.inr hbE) hBE'.size).mono ?_
      rintro ev wF ⟨rfl, hBF⟩
      go_wp2
      go_ret
      exact ⟨rfl, hBE'.trans hBF⟩
    | cons q2 qs =>
      obtain ⟨b2, x2, rfl, hcell2, hq2⟩ := hq
      refine (itself_fault _ _ (hg.below hBB')).mono ?_
      rintro ev wC ⟨rfl, hBC⟩
      have hBC' := hBB'.trans (hBC.mono hBB'.size)
      have hbC := below_builder hbB hBC
      have eb : Lib.byteCells pre ++ Lib.strCells q ++ Lib.strCells ⟨#[58, 32]⟩ = Lib.byteCells (pre ++ (q.data.toList ++ [58, 32])) := by
        simp [Lib.byteCells, Lib.strCells]
      rw [eb] at hbC
      have HC : Hid (Lib.BuilderAt 52 5 w.heap.size w.heap.size (.pointer (some ⟨w.heap.size, 0, none⟩)) (Lib.byteCells (pre ++ (q.data.toList ++ [58, 32]))) wC) := hbC
      clear eb hbC hbB hbA hbu h0 h1 hBA hBB hBC
      go_wp2
      go_roundg qs.length
      case measure => have := HK.out; simp at this; omega
      case rel => exact ⟨hBC', q2, qs, _, b2, rfl, rfl, ⟨b2, x2, rfl, hcell2, hq2⟩, .inr HC.out, by rw [← HP.out]; simp [txt]⟩
end Go.Proofs.YtobdgdbdibnlgaaDoor
