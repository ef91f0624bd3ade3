/-
  errors.As at the other targets, errors.Is of two codes; package fault's New, Wrap, itself and Code by their contracts. No conditions beyond those stated.
-/
import Derived.Test.YtobdgdbdibnlgaaDoorCalls
namespace Go.Proofs.YtobdgdbdibnlgaaDoor
open Go.RowKit Go.Extern.Stop Go.Stop Go.Extern

set_option maxHeartbeats 1000000 in
theorem As_code_other (ps : List ByteArray) (y : Value) (v : Value) (t : Addr) (w : World) (hg : Handle w) (hch : Chain w (.iface 35 y) ps v) :
    Calls Tryd.prog 18 #[v, .iface 45 (.pointer (some t))] w
      fun e w' => e = .returned (.bool false) ∧ Below w.heap.size w w' := by
  obtain ⟨u, z, rfl⟩ := hch.iface
  have h65 := @run_callFunc_extern Tryd.prog 65 _ (ReflectliteType.abiMethod fun t => do pure (.int .u8 (← Rtype.kind t))) Tryd.func65 (by kernel_rfl) (by kernel_rfl) (by kernel_rfl) (by kernel_rfl)
  have h25 := Tryd.ext25
  have h26 := Tryd.ext26
  have h27 := Tryd.ext27
  have h76 := Tryd.ext76
  have h77 := Tryd.ext77
  have f6 := Tryd.valueOf45
  have f7 := Tryd.type45
  have mK := Tryd.methodKind
  have mE := Tryd.methodElem
  have mI := Tryd.methodImplements
  have k45 := Tryd.kind45
  have k27 := Tryd.kind27
  have e45 := Tryd.elem45
  have i27 := Tryd.implements27
  have n8 := Tryd.isNil45 ⟨w.heap.size, 0, none⟩ t ((w.alloc (.cells #[.pointer (some t)] 45)).alloc (.cells #[.pointer (some ⟨4, 45, none⟩), .pointer (some ⟨w.heap.size, 0, none⟩), .int .u64 150] 60)) (by simp)
  have hg2 : ((w.alloc (.cells #[.pointer (some t)] 45)).alloc (.cells #[.pointer (some ⟨4, 45, none⟩), .pointer (some ⟨w.heap.size, 0, none⟩), .int .u64 150] 60)).cell? ⟨0, 0, none⟩ = some (.iface 80 (.agg #[.pointer (some ⟨4, 25, none⟩)])) := cell_alloc_old (cell_alloc_old hg _) _
  have hB : Below w.heap.size w ((w.alloc (.cells #[.pointer (some t)] 45)).alloc (.cells #[.pointer (some ⟨4, 45, none⟩), .pointer (some ⟨w.heap.size, 0, none⟩), .int .u64 150] 60)) := ((Below.refl _ _).alloc (Nat.le_refl _) _).alloc (by simp) _
  go_enter Tryd.func18, Tryd.ntmps18
  go_wp2_with (go_at_call 28; refine (as_code_other ps y _ t ⟨w.heap.size, 0, none⟩ _ (hch.below hB)).mono ?_; rintro e w' ⟨rfl, hb1⟩)
  go_ret
  exact ⟨rfl, hB.trans (hb1.mono (by simp; omega))⟩

set_option maxHeartbeats 1000000 in
theorem As_fault_hit (e t : Addr) (old : Value) (w : World) (hg : Handle w) (ht : w.cell? t = some old) (hf : w.frozen? t = false) :
    Calls Tryd.prog 18 #[.iface 39 (.pointer (some e)), .iface 69 (.pointer (some t))] w
      fun ev w' => ev = .returned (.bool true) ∧ ∃ w1, Below w.heap.size w w1 ∧ w' = w1.setCell t (.pointer (some e)) := by
  have h65 := @run_callFunc_extern Tryd.prog 65 _ (ReflectliteType.abiMethod fun t => do pure (.int .u8 (← Rtype.kind t))) Tryd.func65 (by kernel_rfl) (by kernel_rfl) (by kernel_rfl) (by kernel_rfl)
  have h25 := Tryd.ext25
  have h26 := Tryd.ext26
  have h27 := Tryd.ext27
  have h76 := Tryd.ext76
  have h77 := Tryd.ext77
  have f6 := Tryd.valueOf69
  have f7 := Tryd.type69
  have mK := Tryd.methodKind
  have mE := Tryd.methodElem
  have mI := Tryd.methodImplements
  have k45 := Tryd.kind69
  have k27 := Tryd.kind39
  have e45 := Tryd.elem69
  have i27 := Tryd.implements39
  have n8 := Tryd.isNil69 ⟨w.heap.size, 0, none⟩ t ((w.alloc (.cells #[.pointer (some t)] 69)).alloc (.cells #[.pointer (some ⟨4, 69, none⟩), .pointer (some ⟨w.heap.size, 0, none⟩), .int .u64 150] 60)) (by simp)
  have hg2 : ((w.alloc (.cells #[.pointer (some t)] 69)).alloc (.cells #[.pointer (some ⟨4, 69, none⟩), .pointer (some ⟨w.heap.size, 0, none⟩), .int .u64 150] 60)).cell? ⟨0, 0, none⟩ = some (.iface 80 (.agg #[.pointer (some ⟨4, 25, none⟩)])) := cell_alloc_old (cell_alloc_old hg _) _
  have hB : Below w.heap.size w ((w.alloc (.cells #[.pointer (some t)] 69)).alloc (.cells #[.pointer (some ⟨4, 69, none⟩), .pointer (some ⟨w.heap.size, 0, none⟩), .int .u64 150] 60)) := ((Below.refl _ _).alloc (Nat.le_refl _) _).alloc (by simp) _
  go_enter Tryd.func18, Tryd.ntmps18
  go_wp2_with (go_at_call 28; refine (as_fault_hit e t ⟨w.heap.size, 0, none⟩ old _ (by simp) (cell_alloc_old (cell_alloc_old ht _) _) (by rw [frozen_alloc_old (cell_alloc_old ht _), frozen_alloc_old ht]; exact hf)).mono ?_; rintro e w' ⟨rfl, w1, hb1, rfl⟩)
  go_ret
  exact ⟨rfl, w1, hB.trans (hb1.mono (by simp; omega)), rfl⟩

/-- the last error of a chain that has a code, or has none. -/
def Last (y : Value) : Prop := (∃ c : Int, y = .iface 27 (.int .i64 c)) ∨ ∃ z, y = .iface 35 z

set_option maxHeartbeats 1000000 in
theorem As_fault_last (y : Value) (hy : Last y) (t : Addr) (w : World) (hg : Handle w) :
    Calls Tryd.prog 18 #[y, .iface 69 (.pointer (some t))] w
      fun ev w' => ev = .returned (.bool false) ∧ Below w.heap.size w w' := by
  have h65 := @run_callFunc_extern Tryd.prog 65 _ (ReflectliteType.abiMethod fun t => do pure (.int .u8 (← Rtype.kind t))) Tryd.func65 (by kernel_rfl) (by kernel_rfl) (by kernel_rfl) (by kernel_rfl)
  have h25 := Tryd.ext25
  have h26 := Tryd.ext26
  have h27 := Tryd.ext27
  have h76 := Tryd.ext76
  have h77 := Tryd.ext77
  have f6 := Tryd.valueOf69
  have f7 := Tryd.type69
  have mK := Tryd.methodKind
  have mE := Tryd.methodElem
  have mI := Tryd.methodImplements
  have k45 := Tryd.kind69
  have k27 := Tryd.kind39
  have e45 := Tryd.elem69
  have i27 := Tryd.implements39
  have n8 := Tryd.isNil69 ⟨w.heap.size, 0, none⟩ t ((w.alloc (.cells #[.pointer (some t)] 69)).alloc (.cells #[.pointer (some ⟨4, 69, none⟩), .pointer (some ⟨w.heap.size, 0, none⟩), .int .u64 150] 60)) (by simp)
  have hg2 : ((w.alloc (.cells #[.pointer (some t)] 69)).alloc (.cells #[.pointer (some ⟨4, 69, none⟩), .pointer (some ⟨w.heap.size, 0, none⟩), .int .u64 150] 60)).cell? ⟨0, 0, none⟩ = some (.iface 80 (.agg #[.pointer (some ⟨4, 25, none⟩)])) := cell_alloc_old (cell_alloc_old hg _) _
  have hB : Below w.heap.size w ((w.alloc (.cells #[.pointer (some t)] 69)).alloc (.cells #[.pointer (some ⟨4, 69, none⟩), .pointer (some ⟨w.heap.size, 0, none⟩), .int .u64 150] 60)) := ((Below.refl _ _).alloc (Nat.le_refl _) _).alloc (by simp) _
  rcases hy with ⟨c, rfl⟩ | ⟨z, rfl⟩
  · go_enter Tryd.func18, Tryd.ntmps18
    go_wp2_with (go_at_call 28; refine (as_fault_code c t ⟨w.heap.size, 0, none⟩ _).mono ?_; rintro e w' ⟨rfl, hb1⟩)
    go_ret
    exact ⟨rfl, hB.trans (hb1.mono (by simp; omega))⟩
  · go_enter Tryd.func18, Tryd.ntmps18
    go_wp2_with (go_at_call 28; refine (as_fault_other z t ⟨w.heap.size, 0, none⟩ _).mono ?_; rintro e w' ⟨rfl, hb1⟩)
    go_ret
    exact ⟨rfl, hB.trans (hb1.mono (by simp; omega))⟩

section
variable {P : Program} (w : World)
theorem run_equalIn_iface_int (d : Nat) {ti tn : TypeId} {ms : Array (String × TypeId)} {i : TypeInfo} {k : IntKind} (a b : Int)
    (hi : P.underlying ti = some (.interface ms)) (hn : P.underlying tn = some (.int k)) (hinfo : P.info? tn = some i) (hcomp : i.comparable = true) :
    (Op.equalIn (d + 2) ti (.iface tn (.int k a)) (.iface tn (.int k b))).run P w = .ok (a == b) w := by
  simp [Op.equalIn, run_underlying hi, run_underlying hn, typeInfo, hinfo, hcomp]
theorem run_eql_iface_int {ti tn : TypeId} {ms : Array (String × TypeId)} {i : TypeInfo} {k : IntKind} (a b : Int)
    (hi : P.underlying ti = some (.interface ms)) (hn : P.underlying tn = some (.int k)) (hinfo : P.info? tn = some i) (hcomp : i.comparable = true) :
    (binOp .eql ti (.iface tn (.int k a)) (.iface tn (.int k b))).run P w = .ok (.bool (a == b)) w := by
  simp only [binOp]
  simp [Op.equal, Op.maxDepth, run_equalIn_iface_int w 9998 a b hi hn hinfo hcomp]
end
theorem Tryd.comp27 : (Tryd.prog.info? 27).map (·.comparable) = some true := by kernel_rfl
theorem Tryd.comp39 : (Tryd.prog.info? 39).map (·.comparable) = some true := by kernel_rfl
theorem Tryd.size41 : (Tryd.prog.info? 41).map (·.size) = some 2 := by kernel_rfl

set_option maxHeartbeats 1000000 in
theorem is_codes (a b : Int) (w : World) :
    Calls Tryd.prog 32 #[.iface 27 (.int .i64 a), .iface 27 (.int .i64 b), .bool true] w fun e w' => e = .returned (.bool (a == b)) ∧ w' = w := by
  obtain ⟨i, hi, hcmp⟩ := Option.map_eq_some_iff.1 Tryd.comp27
  have heq := run_eql_iface_int (P := Tryd.prog) w a b Tryd.underlying25 Tryd.underlying27 hi hcmp
  have nE := Tryd.noIsE
  have uE := Tryd.noUnwrapE
  have sE := Tryd.noUnwrapsE
  cases hab : (a == b)
  · rw [hab] at heq
    go_enter Tryd.func32, Tryd.ntmps32
    go_wp2
    refine wp_loop_rounds 1 ?_
    rw [rounds_succ]
    go_wp2
    go_ret
    exact ⟨rfl, rfl⟩
  · rw [hab] at heq
    go_enter Tryd.func32, Tryd.ntmps32
    go_wp2
    refine wp_loop_rounds 1 ?_
    rw [rounds_succ]
    go_wp2
    go_ret
    exact ⟨rfl, rfl⟩

theorem call75 (w : World) : (callFunc 75 #[.agg #[.pointer (some ⟨4, 27, none⟩)]]).run Tryd.prog w = .ok (.value (.bool true)) w := by
  rw [@run_callFunc_extern Tryd.prog 75 _ (ReflectliteType.method fun t => do Rtype.noPackHeld "Comparable" t; pure (.bool (← typeInfo t).comparable)) Tryd.func75 (by kernel_rfl) (by kernel_rfl) (by kernel_rfl) (by kernel_rfl)]
  kernel_rfl

set_option maxHeartbeats 1000000 in
theorem Is_codes (a b : Int) (w : World) :
    Calls Tryd.prog 21 #[.iface 27 (.int .i64 a), .iface 27 (.int .i64 b)] w fun e w' => e = .returned (.bool (a == b)) ∧ w' = w := by
  have h31 := Tryd.ext31
  have h75 := call75
  have tT := Tryd.typeOf27
  have mR := Tryd.methodComparable
  go_enter Tryd.func21, Tryd.ntmps21
  go_wp2_with (go_at_call 32; refine (is_codes a b _).mono ?_; rintro e w' ⟨rfl, rfl⟩)
  go_ret
  exact ⟨rfl, rfl⟩

theorem New_none (p : ByteArray) (w : World) : Calls Tryd.prog 15 #[.int .i64 0, .string p] w fun e w' => e = .returned .nilIface ∧ w' = w := by
  go_enter Tryd.func15, Tryd.ntmps15
  go_wp2_with (go_at_call 21; refine (Is_codes _ _ _).mono ?_; rintro e w' ⟨rfl, rfl⟩)
  go_ret
  exact ⟨rfl, rfl⟩
theorem New_some (c : Int) (hc : (c == 0) = false) (p : ByteArray) (w : World) : Calls Tryd.prog 15 #[.int .i64 c, .string p] w fun e w' => e = .returned (.iface 39 (.pointer (some ⟨w.heap.size, 0, none⟩))) ∧ w' = w.alloc (.cells #[.string p, .iface 27 (.int .i64 c)] 41) := by
  go_enter Tryd.func15, Tryd.ntmps15
  go_wp2_with (go_at_call 21; refine (Is_codes _ _ _).mono ?_; rintro e w' ⟨rfl, rfl⟩)
  go_ret
  exact ⟨rfl, rfl⟩
theorem Wrap_none (p : ByteArray) (w : World) : Calls Tryd.prog 14 #[.nilIface, .string p] w fun e w' => e = .returned .nilIface ∧ w' = w := by
  go_enter Tryd.func14, Tryd.ntmps14
  go_wp2
  go_ret
  exact ⟨rfl, rfl⟩
theorem Wrap_some (u : TypeId) (x : Value) (p : ByteArray) (w : World) : Calls Tryd.prog 14 #[.iface u x, .string p] w fun e w' => e = .returned (.iface 39 (.pointer (some ⟨w.heap.size, 0, none⟩))) ∧ w' = w.alloc (.cells #[.string p, .iface u x] 41) := by
  go_enter Tryd.func14, Tryd.ntmps14
  go_wp2
  go_ret
  exact ⟨rfl, rfl⟩
end Go.Proofs.YtobdgdbdibnlgaaDoor
