/-
  errors.As, errors.Is and package fault's New, Wrap, itself and Code by their contracts. No conditions beyond those stated.
-/
import Derived.Test.YtgcccihnlecpnaaGreatDoorTChain
namespace Go.Proofs.YtgcccihnlecpnaaGreatDoor
open Go.RowKit Go.Extern.Stop Go.Stop Go.Extern

theorem as_nil (t : Value) (w : World) :
    Calls Tryz.prog 24 #[.nilIface, t] w fun e w' => e = .returned (.bool false) ∧ w' = w := by
  go_enter Tryz.func24, Tryz.ntmps24
  go_wp2
  go_ret
  exact ⟨rfl, rfl⟩

/-- the variable errors.errorType holds the handle of the type error. -/
def Handle (w : World) : Prop := w.cell? ⟨2, 0, none⟩ = some (.iface 102 (.agg #[.pointer (some ⟨11, 37, none⟩)]))

theorem Handle.below {w w' : World} (h : Handle w) (hb : Below w.heap.size w w') : Handle w' := by
  have hlt := lt_of_cellT h
  unfold Handle
  rw [hb.cell hlt]; exact h

set_option maxHeartbeats 1000000 in
theorem As_code (ps : List ByteArray) (c : Int) (v : Value) (t : Addr) (old : Value) (w : World) (hg : Handle w) (hch : Chain w (.iface 40 (.int .i64 c)) ps v) (ht : w.cell? t = some old) (hf : w.frozen? t = false) :
    Calls Tryz.prog 24 #[v, .iface 57 (.pointer (some t))] w
      fun e w' => e = .returned (.bool true) ∧ ∃ w1, Below w.heap.size w w1 ∧ w' = w1.setCell t (.int .i64 c) := by
  obtain ⟨u, z, rfl⟩ := hch.iface
  have h65 := @run_callFunc_extern Tryz.prog 124 _ (ReflectliteType.abiMethod fun t => do pure (.int .u8 (← Rtype.kind t))) Tryz.func124 (by kernel_rfl) (by kernel_rfl) (by kernel_rfl) (by kernel_rfl)
  have h25 := Tryz.ext41
  have h26 := Tryz.ext42
  have h27 := Tryz.ext43
  have h76 := Tryz.ext136
  have h77 := Tryz.ext137
  have f6 := Tryz.valueOf45
  have f7 := Tryz.type45
  have mK := Tryz.methodKind
  have mE := Tryz.methodElem
  have mI := Tryz.methodImplements
  have k45 := Tryz.kind45
  have k27 := Tryz.kind27
  have e45 := Tryz.elem45
  have i27 := Tryz.implements27
  have n8 := Tryz.isNil45 ⟨w.heap.size, 0, none⟩ t ((w.alloc (.cells #[.pointer (some t)] 57)).alloc (.cells #[.pointer (some ⟨11, 57, none⟩), .pointer (some ⟨w.heap.size, 0, none⟩), .int .u64 150] 77)) (by simp)
  have hg2 : ((w.alloc (.cells #[.pointer (some t)] 57)).alloc (.cells #[.pointer (some ⟨11, 57, none⟩), .pointer (some ⟨w.heap.size, 0, none⟩), .int .u64 150] 77)).cell? ⟨2, 0, none⟩ = some (.iface 102 (.agg #[.pointer (some ⟨11, 37, none⟩)])) := cell_alloc_old (cell_alloc_old hg _) _
  have hB : Below w.heap.size w ((w.alloc (.cells #[.pointer (some t)] 57)).alloc (.cells #[.pointer (some ⟨11, 57, none⟩), .pointer (some ⟨w.heap.size, 0, none⟩), .int .u64 150] 77)) := ((Below.refl _ _).alloc (Nat.le_refl _) _).alloc (by simp) _
  go_enter Tryz.func24, Tryz.ntmps24
  go_wp2_with (go_at_call 44; refine (as_code ps c _ t ⟨w.heap.size, 0, none⟩ old _ (hch.below hB) (by simp) (cell_alloc_old (cell_alloc_old ht _) _) (by rw [frozen_alloc_old (cell_alloc_old ht _), frozen_alloc_old ht]; exact hf)).mono ?_; rintro e w' ⟨rfl, w1, hb1, rfl⟩)
  go_ret
  exact ⟨rfl, w1, hB.trans (hb1.mono (by simp; omega)), rfl⟩
section
variable {P : Program} (w : World)
theorem run_equalIn_iface_int (d : Nat) {ti tn : TypeId} {ms : Array (String × TypeId)} {i : TypeInfo} {k : IntKind} (a b : Int)
    (hi : P.underlying ti = some (.interface ms)) (hn : P.underlying tn = some (.int k)) (hinfo : P.info? tn = some i) (hcomp : i.comparable = true) :
    (Op.equalIn (d + 2) ti (.iface tn (.int k a)) (.iface tn (.int k b))).run P w = .ok (a == b) w := by
  simp [Op.equalIn, run_underlying hi, run_underlying hn, typeInfo, hinfo, hcomp]
theorem run_eql_iface_int {ti tn : TypeId} {ms : Array (String × TypeId)} {i : TypeInfo} {k : IntKind} (a b : Int)
    (hi : P.underlying ti = some (.interface ms)) (hn : P.underlying tn = some (.int k)) (hinfo : P.info? tn = some i) (hcomp : i.comparable = true) :
    (binOp .eql ti (.iface tn (.int k a)) (.iface tn (.int k b))).run P w = .ok (.bool (a == b)) w := by
  simp only [binOp]
  simp [Op.equal, Op.maxDepth, run_equalIn_iface_int w 9998 a b hi hn hinfo hcomp]
end
theorem Tryz.comp27 : (Tryz.prog.info? 40).map (·.comparable) = some true := by kernel_rfl
set_option maxHeartbeats 1000000 in
theorem is_codes (a b : Int) (w : World) :
    Calls Tryz.prog 64 #[.iface 40 (.int .i64 a), .iface 40 (.int .i64 b), .bool true] w fun e w' => e = .returned (.bool (a == b)) ∧ w' = w := by
  obtain ⟨i, hi, hcmp⟩ := Option.map_eq_some_iff.1 Tryz.comp27
  have heq := run_eql_iface_int (P := Tryz.prog) w a b Tryz.underlying37 Tryz.underlying40 hi hcmp
  have nE := Tryz.noIsE
  have uE := Tryz.noUnwrapE
  have sE := Tryz.noUnwrapsE
  cases hab : (a == b)
  · rw [hab] at heq
    go_enter Tryz.func64, Tryz.ntmps64
    go_wp2
    refine wp_loop_rounds 1 ?_
    rw [rounds_succ]
    go_wp2
    go_ret
    exact ⟨rfl, rfl⟩
  · rw [hab] at heq
    go_enter Tryz.func64, Tryz.ntmps64
    go_wp2
    refine wp_loop_rounds 1 ?_
    rw [rounds_succ]
    go_wp2
    go_ret
    exact ⟨rfl, rfl⟩

theorem call75 (w : World) : (callFunc 135 #[.agg #[.pointer (some ⟨11, 40, none⟩)]]).run Tryz.prog w = .ok (.value (.bool true)) w := by
  rw [@run_callFunc_extern Tryz.prog 135 _ (ReflectliteType.method fun t => do Rtype.noPackHeld "Comparable" t; pure (.bool (← typeInfo t).comparable)) Tryz.func135 (by kernel_rfl) (by kernel_rfl) (by kernel_rfl) (by kernel_rfl)]
  kernel_rfl

set_option maxHeartbeats 1000000 in
theorem Is_codes (a b : Int) (w : World) :
    Calls Tryz.prog 48 #[.iface 40 (.int .i64 a), .iface 40 (.int .i64 b)] w fun e w' => e = .returned (.bool (a == b)) ∧ w' = w := by
  have h31 := Tryz.ext59
  have h75 := call75
  have tT := Tryz.typeOf27
  have mR := Tryz.methodComparable
  go_enter Tryz.func48, Tryz.ntmps48
  go_wp2_with (go_at_call 64; refine (is_codes a b _).mono ?_; rintro e w' ⟨rfl, rfl⟩)
  go_ret
  exact ⟨rfl, rfl⟩

theorem New_none (p : ByteArray) (w : World) : Calls Tryz.prog 27 #[.int .i64 0, .string p] w fun e w' => e = .returned .nilIface ∧ w' = w := by
  go_enter Tryz.func27, Tryz.ntmps27
  go_wp2_with (go_at_call 48; refine (Is_codes _ _ _).mono ?_; rintro e w' ⟨rfl, rfl⟩)
  go_ret
  exact ⟨rfl, rfl⟩
theorem New_some (c : Int) (hc : (c == 0) = false) (p : ByteArray) (w : World) : Calls Tryz.prog 27 #[.int .i64 c, .string p] w fun e w' => e = .returned (.iface 89 (.pointer (some ⟨w.heap.size, 0, none⟩))) ∧ w' = w.alloc (.cells #[.string p, .iface 40 (.int .i64 c)] 91) := by
  go_enter Tryz.func27, Tryz.ntmps27
  go_wp2_with (go_at_call 48; refine (Is_codes _ _ _).mono ?_; rintro e w' ⟨rfl, rfl⟩)
  go_ret
  exact ⟨rfl, rfl⟩
/-- what a store into the target leaves. -/
theorem set_cell {w w1 : World} {t : Addr} {old v : Value} (hb : Below w.heap.size w w1) (ht : w.cell? t = some old) : (w1.setCell t v).cell? t = some v :=
  World.cell?_setCell_same _ _ _ (hb.cell (lt_of_cellT ht) ▸ ht)

theorem Code_none (w : World) : Calls Tryz.prog 14 #[.nilIface] w fun e w' => e = .returned (.int .i64 0) ∧ w' = w := by
  go_enter Tryz.func14, Tryz.ntmps14
  go_wp2
  go_ret
  exact ⟨rfl, rfl⟩

set_option maxHeartbeats 1000000 in
theorem Code_some (ps : List ByteArray) (c : Int) (v : Value) (w : World) (hg : Handle w) (hch : Chain w (.iface 40 (.int .i64 c)) ps v) :
    Calls Tryz.prog 14 #[v] w fun e w' => e = .returned (.int .i64 c) ∧ Below w.heap.size w w' := by
  obtain ⟨u, z, rfl⟩ := hch.iface
  have hB : Below w.heap.size w (w.alloc (.cells #[.int .i64 0] 40)) := (Below.refl _ _).alloc (Nat.le_refl _) _
  have ht : (w.alloc (.cells #[.int .i64 0] 40)).cell? ⟨w.heap.size, 0, none⟩ = some (.int .i64 0) := by simp
  have hf : (w.alloc (.cells #[.int .i64 0] 40)).frozen? ⟨w.heap.size, 0, none⟩ = false := by simp
  go_enter Tryz.func14, Tryz.ntmps14
  go_wp2_with fail
  refine (As_code ps c _ ⟨w.heap.size, 0, none⟩ (.int .i64 0) _ (hg.below hB) (hch.below hB) ht hf).mono ?_
  rintro e w' ⟨rfl, w1, hb1, rfl⟩
  have hc := set_cell (v := .int .i64 c) hb1 ht
  have hb2 : Below w.heap.size w (w1.setCell ⟨w.heap.size, 0, none⟩ (.int .i64 c)) := (hB.trans (hb1.mono (by simp))).setCell (Nat.le_refl _) _
  clear hb1 hf ht
  generalize w1.setCell ⟨w.heap.size, 0, none⟩ (.int .i64 c) = W2 at *
  go_wp2
  go_ret
  exact ⟨rfl, hb2⟩

end Go.Proofs.YtgcccihnlecpnaaGreatDoor
