/-
  Errors in errors: a list of places around a last error, as it lies in memory; what errors.as makes of it. No conditions beyond those stated.
-/
import Derived.Test.YtgcccihnlecpnaaGreatDoorTAs
import Derived.Deep.LoopGhost
import Derived.Below
namespace Go.Proofs.YtgcccihnlecpnaaGreatDoor
open Go.RowKit Go.Extern.Stop Go.Stop Go.Extern

/-- 'v' is an error of the places 'ps', the outermost first, around 'fin'. -/
def Chain (w : World) (fin : Value) : List ByteArray → Value → Prop
  | [], v => v = fin
  | p :: ps, v => ∃ (b : Nat) (x : Value), v = .iface 89 (.pointer (some ⟨b, 0, none⟩)) ∧ w.heap[b]? = some (.cells #[.string p, x] 91 (0, 0)) ∧ Chain w fin ps x

theorem Chain.below {w w' : World} {fin : Value} (hb : Below w.heap.size w w') : ∀ {ps : List ByteArray} {v : Value}, Chain w fin ps v → Chain w' fin ps v
  | [], _, h => h
  | p :: ps, v, ⟨b, x, e, hc, h⟩ => by
    have hlt : b < w.heap.size := by
      rcases Nat.lt_or_ge b w.heap.size with h' | h'
      · exact h'
      · rw [Array.getElem?_eq_none h'] at hc; cases hc
    exact ⟨b, x, e, by rw [hb.block b hlt]; exact hc, Chain.below hb h⟩

theorem Chain.iface {w : World} {t : TypeId} {y : Value} {ps : List ByteArray} {v : Value} (h : Chain w (.iface t y) ps v) : ∃ u z, v = .iface u z := by
  cases ps with
  | nil => exact ⟨t, y, h⟩
  | cons p ps => obtain ⟨b, x, e, _⟩ := h; exact ⟨_, _, e⟩

theorem lt_of_cellT {w : World} {a : Addr} {v : Value} (h : w.cell? a = some v) : a.block < w.heap.size := by
  rcases Nat.lt_or_ge a.block w.heap.size with h' | h'
  · exact h'
  · simp [World.cell?, Array.getElem?_eq_none h'] at h
theorem cell_alloc_old {w : World} {a : Addr} {v : Value} (h : w.cell? a = some v) (o : Obj) : (w.alloc o).cell? a = some v := by
  rw [World.cell?_alloc_lt _ _ a (lt_of_cellT h)]; exact h
theorem frozen_alloc_old {w : World} {a : Addr} {v : Value} (h : w.cell? a = some v) (o : Obj) : (w.alloc o).frozen? a = w.frozen? a :=
  World.frozen?_alloc_old _ _ a (Nat.ne_of_lt (lt_of_cellT h))
theorem cell_of_heap {w : World} {b : Nat} {cs : Array Value} {t : TypeId} {x : Value} {k : Nat} (h : w.heap[b]? = some (.cells cs t (0, 0))) (hk : cs[k]? = some x) : w.cell? ⟨b, k, none⟩ = some x := by
  simp [World.cell?, h, hk]

set_option maxHeartbeats 1000000 in
theorem as_code (ps : List ByteArray) (c : Int) (v : Value) (t a : Addr) (old : Value) (w : World) (hch : Chain w (.iface 40 (.int .i64 c)) ps v) (ha : w.cell? a = some (.pointer (some t))) (ht : w.cell? t = some old) (hf : w.frozen? t = false) :
    Calls Tryz.prog 44 #[v, .iface 57 (.pointer (some t)), .agg #[.pointer (some ⟨11, 57, none⟩), .pointer (some a), .int .u64 150], .iface 102 (.agg #[.pointer (some ⟨11, 40, none⟩)])] w
      fun e w' => e = .returned (.bool true) ∧ ∃ w1, Below w.heap.size w w1 ∧ w' = w1.setCell t (.int .i64 c) := by
  have h31 := Tryz.ext59
  have h74 := Tryz.ext134
  have h34 := Tryz.ext60
  have h25 := Tryz.ext41
  have h35 := Tryz.ext61
  have mA := Tryz.methodAssignableTo
  have mU := Tryz.methodUnwrap
  have tO := Tryz.typeOf27
  have tF := Tryz.typeOf39
  have aE := Tryz.asg27_27
  have aF := Tryz.asg39_27
  have nA := Tryz.noAsF
  have hU := Tryz.hasUnwrapF
  have vE := Tryz.valueOf27
  go_enter Tryz.func44, Tryz.ntmps44
  go_wp2
  go_loopg [0] ps.length (fun k e wr => wr = w.alloc (.cells #[.pointer (some ⟨11, 57, none⟩), .pointer (some a), .int .u64 150] 77) ∧ ∃ qs : List ByteArray, qs.length = k ∧ Chain w (.iface 40 (.int .i64 c)) qs e)
  case atStart => exact ⟨rfl, ps, rfl, hch⟩
  case round =>
    obtain ⟨rfl, qs, hk, hq⟩ := hrel
    have HK : Hid (qs.length = gk) := hk
    clear hk hch
    cases qs with
    | nil =>
      obtain rfl : _ = Value.iface 40 (.int .i64 c) := hq
      have el := Tryz.elemV45 a t (w.alloc (.cells #[.pointer (some ⟨11, 57, none⟩), .pointer (some a), .int .u64 150] 77)) (cell_alloc_old ha _)
      have st := Tryz.set27 t ⟨w.heap.size + 1, 0, none⟩ c old ((w.alloc (.cells #[.pointer (some ⟨11, 57, none⟩), .pointer (some a), .int .u64 150] 77)).alloc (.cells #[.int .i64 c] 40)) (by rw [World.cell?_alloc_at _ _ _ _ (by simp)]; rfl) (cell_alloc_old (cell_alloc_old ht _) _) (by rw [frozen_alloc_old (cell_alloc_old ht _), frozen_alloc_old ht]; exact hf)
      go_wp2
      go_ret
      exact ⟨rfl, _, ((Below.refl _ _).alloc (Nat.le_refl _) _).alloc (by simp) _, rfl⟩
    | cons p qs =>
      obtain ⟨b, x, rfl, hcell, hq⟩ := hq
      obtain ⟨u, z, rfl⟩ := hq.iface
      have hc1 : (w.alloc (.cells #[.pointer (some ⟨11, 57, none⟩), .pointer (some a), .int .u64 150] 77)).cell? ⟨b, 1, none⟩ = some (.iface u z) := cell_alloc_old (cell_of_heap hcell rfl) _
      go_wp2
      go_roundg qs.length
      case measure => have := HK.out; simp at this; omega
      case rel => exact ⟨rfl, qs, rfl, hq⟩
end Go.Proofs.YtgcccihnlecpnaaGreatDoor
