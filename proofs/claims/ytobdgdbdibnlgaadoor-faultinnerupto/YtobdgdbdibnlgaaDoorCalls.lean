/-
  errors.As, errors.Is and package fault's New, Wrap, itself and Code by their contracts. No conditions beyond those stated.
-/
import Derived.Test.YtobdgdbdibnlgaaDoorChain
namespace Go.Proofs.YtobdgdbdibnlgaaDoor
open Go.RowKit Go.Extern.Stop Go.Stop Go.Extern

set_option maxHeartbeats 1000000 in
theorem as_code_other (ps : List ByteArray) (y : Value) (v : Value) (t a : Addr) (w : World) (hch : Chain w (.iface 35 y) ps v) :
    Calls Tryd.prog 28 #[v, .iface 45 (.pointer (some t)), .agg #[.pointer (some ⟨4, 45, none⟩), .pointer (some a), .int .u64 150], .iface 80 (.agg #[.pointer (some ⟨4, 27, none⟩)])] w
      fun e w' => e = .returned (.bool false) ∧ Below w.heap.size w w' := by
  have h31 := Tryd.ext31
  have h74 := Tryd.ext74
  have mA := Tryd.methodAssignableTo
  have mU := Tryd.methodUnwrap
  have tO := Tryd.typeOf35
  have tF := Tryd.typeOf39
  have aO := Tryd.asg35_27
  have aF := Tryd.asg39_27
  have nA := Tryd.noAsF
  have nO := Tryd.noAsO
  have hU := Tryd.hasUnwrapF
  have uO := Tryd.noUnwrapO
  have sO := Tryd.noUnwrapsO
  go_enter Tryd.func28, Tryd.ntmps28
  go_wp2
  go_loopg [0] ps.length (fun k e wr => wr = w.alloc (.cells #[.pointer (some ⟨4, 45, none⟩), .pointer (some a), .int .u64 150] 60) ∧ ∃ qs : List ByteArray, qs.length = k ∧ Chain w (.iface 35 y) qs e)
  case atStart => exact ⟨rfl, ps, rfl, hch⟩
  case round =>
    obtain ⟨rfl, qs, hk, hq⟩ := hrel
    have HK : Hid (qs.length = gk) := hk
    clear hk hch
    cases qs with
    | nil =>
      obtain rfl : _ = Value.iface 35 y := hq
      go_wp2
      go_ret
      exact ⟨rfl, (Below.refl _ _).alloc (Nat.le_refl _) _⟩
    | cons p qs =>
      obtain ⟨b, x, rfl, hcell, hq⟩ := hq
      obtain ⟨u, z, rfl⟩ := hq.iface
      have hc1 : (w.alloc (.cells #[.pointer (some ⟨4, 45, none⟩), .pointer (some a), .int .u64 150] 60)).cell? ⟨b, 1, none⟩ = some (.iface u z) := cell_alloc_old (cell_of_heap hcell rfl) _
      go_wp2
      go_roundg qs.length
      case measure => have := HK.out; simp at this; omega
      case rel => exact ⟨rfl, qs, rfl, hq⟩

set_option maxHeartbeats 1000000 in
theorem as_fault_hit (e t a : Addr) (old : Value) (w : World) (ha : w.cell? a = some (.pointer (some t))) (ht : w.cell? t = some old) (hf : w.frozen? t = false) :
    Calls Tryd.prog 28 #[.iface 39 (.pointer (some e)), .iface 69 (.pointer (some t)), .agg #[.pointer (some ⟨4, 69, none⟩), .pointer (some a), .int .u64 150], .iface 80 (.agg #[.pointer (some ⟨4, 39, none⟩)])] w
      fun ev w' => ev = .returned (.bool true) ∧ ∃ w1, Below w.heap.size w w1 ∧ w' = w1.setCell t (.pointer (some e)) := by
  have h31 := Tryd.ext31
  have h74 := Tryd.ext74
  have h34 := Tryd.ext34
  have h25 := Tryd.ext25
  have h35 := Tryd.ext35
  have mA := Tryd.methodAssignableTo
  have tF := Tryd.typeOf39
  have aF := Tryd.asg39_39
  have vF := Tryd.valueOf39
  have el := Tryd.elemV69 a t (w.alloc (.cells #[.pointer (some ⟨4, 69, none⟩), .pointer (some a), .int .u64 150] 60)) (cell_alloc_old ha _)
  have st := Tryd.set39 t ⟨w.heap.size + 1, 0, none⟩ e old ((w.alloc (.cells #[.pointer (some ⟨4, 69, none⟩), .pointer (some a), .int .u64 150] 60)).alloc (.cells #[.pointer (some e)] 39)) (by rw [World.cell?_alloc_at _ _ _ _ (by simp)]; rfl) (cell_alloc_old (cell_alloc_old ht _) _) (by rw [frozen_alloc_old (cell_alloc_old ht _), frozen_alloc_old ht]; exact hf)
  go_enter Tryd.func28, Tryd.ntmps28
  go_wp2
  refine wp_loop_rounds 1 ?_
  rw [rounds_succ]
  go_wp2
  go_ret
  exact ⟨rfl, _, ((Below.refl _ _).alloc (Nat.le_refl _) _).alloc (by simp) _, rfl⟩

set_option maxHeartbeats 1000000 in
theorem as_fault_code (c : Int) (t a : Addr) (w : World) :
    Calls Tryd.prog 28 #[.iface 27 (.int .i64 c), .iface 69 (.pointer (some t)), .agg #[.pointer (some ⟨4, 69, none⟩), .pointer (some a), .int .u64 150], .iface 80 (.agg #[.pointer (some ⟨4, 39, none⟩)])] w
      fun ev w' => ev = .returned (.bool false) ∧ Below w.heap.size w w' := by
  have h31 := Tryd.ext31
  have h74 := Tryd.ext74
  have mA := Tryd.methodAssignableTo
  have tO := Tryd.typeOf27
  have aO := Tryd.asg27_39
  have nO := Tryd.noAsE
  have uO := Tryd.noUnwrapE
  have sO := Tryd.noUnwrapsE
  go_enter Tryd.func28, Tryd.ntmps28
  go_wp2
  refine wp_loop_rounds 1 ?_
  rw [rounds_succ]
  go_wp2
  go_ret
  exact ⟨rfl, (Below.refl _ _).alloc (Nat.le_refl _) _⟩

set_option maxHeartbeats 1000000 in
theorem as_fault_other (y : Value) (t a : Addr) (w : World) :
    Calls Tryd.prog 28 #[.iface 35 y, .iface 69 (.pointer (some t)), .agg #[.pointer (some ⟨4, 69, none⟩), .pointer (some a), .int .u64 150], .iface 80 (.agg #[.pointer (some ⟨4, 39, none⟩)])] w
      fun ev w' => ev = .returned (.bool false) ∧ Below w.heap.size w w' := by
  have h31 := Tryd.ext31
  have h74 := Tryd.ext74
  have mA := Tryd.methodAssignableTo
  have tO := Tryd.typeOf35
  have aO := Tryd.asg35_39
  have nO := Tryd.noAsO
  have uO := Tryd.noUnwrapO
  have sO := Tryd.noUnwrapsO
  go_enter Tryd.func28, Tryd.ntmps28
  go_wp2
  refine wp_loop_rounds 1 ?_
  rw [rounds_succ]
  go_wp2
  go_ret
  exact ⟨rfl, (Below.refl _ _).alloc (Nat.le_refl _) _⟩

theorem as_nil (t : Value) (w : World) :
    Calls Tryd.prog 18 #[.nilIface, t] w fun e w' => e = .returned (.bool false) ∧ w' = w := by
  go_enter Tryd.func18, Tryd.ntmps18
  go_wp2
  go_ret
  exact ⟨rfl, rfl⟩

/-- the variable errors.errorType holds the handle of the type error. -/
def Handle (w : World) : Prop := w.cell? ⟨0, 0, none⟩ = some (.iface 80 (.agg #[.pointer (some ⟨4, 25, none⟩)]))

theorem Handle.below {w w' : World} (h : Handle w) (hb : Below w.heap.size w w') : Handle w' := by
  have hlt := lt_of_cell h
  unfold Handle
  rw [hb.cell hlt]; exact h

set_option maxHeartbeats 1000000 in
theorem As_code (ps : List ByteArray) (c : Int) (v : Value) (t : Addr) (old : Value) (w : World) (hg : Handle w) (hch : Chain w (.iface 27 (.int .i64 c)) ps v) (ht : w.cell? t = some old) (hf : w.frozen? t = false) :
    Calls Tryd.prog 18 #[v, .iface 45 (.pointer (some t))] w
      fun e w' => e = .returned (.bool true) ∧ ∃ w1, Below w.heap.size w w1 ∧ w' = w1.setCell t (.int .i64 c) := by
  obtain ⟨u, z, rfl⟩ := hch.iface
  have h65 := @run_callFunc_extern Tryd.prog 65 _ (ReflectliteType.abiMethod fun t => do pure (.int .u8 (← Rtype.kind t))) Tryd.func65 (by kernel_rfl) (by kernel_rfl) (by kernel_rfl) (by kernel_rfl)
  have h25 := Tryd.ext25
  have h26 := Tryd.ext26
  have h27 := Tryd.ext27
  have h76 := Tryd.ext76
  have h77 := Tryd.ext77
  have f6 := Tryd.valueOf45
  have f7 := Tryd.type45
  have mK := Tryd.methodKind
  have mE := Tryd.methodElem
  have mI := Tryd.methodImplements
  have k45 := Tryd.kind45
  have k27 := Tryd.kind27
  have e45 := Tryd.elem45
  have i27 := Tryd.implements27
  have n8 := Tryd.isNil45 ⟨w.heap.size, 0, none⟩ t ((w.alloc (.cells #[.pointer (some t)] 45)).alloc (.cells #[.pointer (some ⟨4, 45, none⟩), .pointer (some ⟨w.heap.size, 0, none⟩), .int .u64 150] 60)) (by simp)
  have hg2 : ((w.alloc (.cells #[.pointer (some t)] 45)).alloc (.cells #[.pointer (some ⟨4, 45, none⟩), .pointer (some ⟨w.heap.size, 0, none⟩), .int .u64 150] 60)).cell? ⟨0, 0, none⟩ = some (.iface 80 (.agg #[.pointer (some ⟨4, 25, none⟩)])) := cell_alloc_old (cell_alloc_old hg _) _
  have hB : Below w.heap.size w ((w.alloc (.cells #[.pointer (some t)] 45)).alloc (.cells #[.pointer (some ⟨4, 45, none⟩), .pointer (some ⟨w.heap.size, 0, none⟩), .int .u64 150] 60)) := ((Below.refl _ _).alloc (Nat.le_refl _) _).alloc (by simp) _
  go_enter Tryd.func18, Tryd.ntmps18
  go_wp2_with (go_at_call 28; refine (as_code ps c _ t ⟨w.heap.size, 0, none⟩ old _ (hch.below hB) (by simp) (cell_alloc_old (cell_alloc_old ht _) _) (by rw [frozen_alloc_old (cell_alloc_old ht _), frozen_alloc_old ht]; exact hf)).mono ?_; rintro e w' ⟨rfl, w1, hb1, rfl⟩)
  go_ret
  exact ⟨rfl, w1, hB.trans (hb1.mono (by simp; omega)), rfl⟩
end Go.Proofs.YtobdgdbdibnlgaaDoor
