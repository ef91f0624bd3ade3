/-
  The laws' own helpers: awake (true in every world that holds the handle), nest. No conditions beyond those stated.
-/
import Derived.Test.YtobdgdbdibnlgaaDoorText
namespace Go.Proofs.YtobdgdbdibnlgaaDoor
open Go.RowKit Go.Extern.Stop Go.Stop Go.Extern

theorem getD_lt (l : List ByteArray) (k : Nat) (d : ByteArray) (h : k < l.length) : l.getD k d = l[k] := by
  simp [List.getD_eq_getElem?_getD, h]

theorem Error_one_below (w W : World) (_ : Below w.heap.size w W) : Calls Tryd.prog 13 #[.int .i64 1] W fun e w' => e = .returned (.string ⟨#[101, 114, 114, 111, 114, 32, 49]⟩) ∧ Below W.heap.size W w' := by
  refine (Error_one W).mono ?_
  rintro e w' ⟨rfl, rfl⟩
  exact ⟨rfl, Below.refl _ _⟩

set_option maxHeartbeats 1000000 in
theorem awake_true (w : World) (hg : Handle w) : Calls Tryd.prog 9 #[] w fun e w' => e = .returned (.bool true) ∧ Below w.heap.size w w' := by
  have mF := Tryd.methodErrorF
  have hB1 : Below w.heap.size w (w.alloc (.cells #[.string ⟨#[97]⟩, .iface 27 (.int .i64 1)] 41)) := (Below.refl _ _).alloc (Nat.le_refl _) _
  have hB2 : Below w.heap.size w ((w.alloc (.cells #[.string ⟨#[97]⟩, .iface 27 (.int .i64 1)] 41)).alloc (.cells #[.string ⟨#[98]⟩, .iface 39 (.pointer (some ⟨w.heap.size, 0, none⟩))] 41)) := hB1.alloc (by simp) _
  have hch : Chain ((w.alloc (.cells #[.string ⟨#[97]⟩, .iface 27 (.int .i64 1)] 41)).alloc (.cells #[.string ⟨#[98]⟩, .iface 39 (.pointer (some ⟨w.heap.size, 0, none⟩))] 41)) (.iface 27 (.int .i64 1)) [⟨#[98]⟩, ⟨#[97]⟩] (.iface 39 (.pointer (some ⟨w.heap.size + 1, 0, none⟩))) := by
    refine ⟨w.heap.size + 1, .iface 39 (.pointer (some ⟨w.heap.size, 0, none⟩)), rfl, ?_, w.heap.size, .iface 27 (.int .i64 1), rfl, ?_, rfl⟩
    · show ((w.heap.push _).push _)[_]? = _
      rw [Array.getElem?_push, if_pos (by simp)]
    · show ((w.heap.push _).push _)[_]? = _
      rw [Array.getElem?_push, if_neg (by simp), Array.getElem?_push, if_pos rfl]
  go_enter Tryd.func9, Tryd.ntmps9
  go_wp2_with fail
  refine (New_some 1 rfl _ _).mono ?_
  rintro e w' ⟨rfl, rfl⟩
  go_wp2_with fail
  refine (Wrap_some _ _ _ _).mono ?_
  rintro e w' ⟨rfl, rfl⟩
  go_wp2_with fail
  refine (Fault_Error 1 ⟨#[101, 114, 114, 111, 114, 32, 49]⟩ ⟨#[98]⟩ [⟨#[97]⟩] (w.heap.size + 1) _ (hg.below hB2) hch (fun W h => Error_one_below _ W h) (by decide)).mono ?_
  rintro e w3 ⟨rfl, hB3⟩
  have hch3 := hch.below hB3
  have hB3' := hB2.trans (hB3.mono hB2.size)
  have et : (txt ⟨#[101, 114, 114, 111, 114, 32, 49]⟩ [⟨#[98]⟩, ⟨#[97]⟩]).toArray = #[98, 58, 32, 97, 58, 32, 101, 114, 114, 111, 114, 32, 49] := by decide
  rw [et]
  clear hch hB1 hB2 hB3 et
  go_wp2_with fail
  refine (Code_some [⟨#[98]⟩, ⟨#[97]⟩] 1 _ _ (hg.below hB3') hch3).mono ?_
  rintro e w4 ⟨rfl, hB4⟩
  go_wp2_with fail
  refine (Code_none _).mono ?_
  rintro e w5 ⟨rfl, rfl⟩
  go_wp2
  go_ret
  exact ⟨rfl, hB3'.trans (hB4.mono hB3'.size)⟩

set_option maxHeartbeats 1000000 in
theorem nest_none (base : Option Addr) (m cap : Nat) (hm : m ≤ 30) (ss : List ByteArray) (w : World)
    (hcell : ∀ k, k < m → ∃ b off, base = some ⟨b, off, none⟩ ∧ w.cell? ⟨b, off + k, none⟩ = some (.string (ss.getD k ByteArray.empty))) :
    Calls Tryd.prog 10 #[.int .i64 0, .slice base m cap] w fun e w' => e = .returned .nilIface ∧ w' = w := by
  go_enter Tryd.func10, Tryd.ntmps10
  go_wp2_with (go_at_call 15; refine (New_none _ _).mono ?_; rintro e w' ⟨rfl, rfl⟩)
  go_loop [5, 12] (fun err i => err = .nilIface ∧ ∃ k : Nat, k ≤ m ∧ i = .int .i64 k) (fun _ i => m - (intOf i).toNat)
  case atStart => exact ⟨rfl, 0, Nat.zero_le _, rfl⟩
  case round =>
    obtain ⟨rfl, k, hk, rfl⟩ := hrel
    by_cases hlt : k < m
    · obtain ⟨b, off, rfl, hc⟩ := hcell k hlt
      clear hcell
      go_wp2_with (go_at_call 14; refine (Wrap_none _ _).mono ?_; rintro e w' ⟨rfl, rfl⟩)
      go_round
      case rel => exact ⟨rfl, k + 1, by omega, by go_num⟩
      case measure => simp [intOf]; omega
    · clear hcell
      go_wp2
      go_ret
      exact ⟨rfl, rfl⟩

set_option maxHeartbeats 1000000 in
theorem nest_some (c : Int) (hc : (c == 0) = false) (base : Option Addr) (m cap : Nat) (hm : m ≤ 30) (ss : List ByteArray) (hss : m ≤ ss.length) (w : World)
    (hcell : ∀ k, k < m → ∃ b off, base = some ⟨b, off, none⟩ ∧ w.cell? ⟨b, off + k, none⟩ = some (.string (ss.getD k ByteArray.empty))) :
    Calls Tryd.prog 10 #[.int .i64 c, .slice base m cap] w fun e w' => ∃ v, e = .returned v ∧ Chain w' (.iface 27 (.int .i64 c)) ((ss.take m).reverse ++ [⟨#[]⟩]) v ∧ Below w.heap.size w w' := by
  go_enter Tryd.func10, Tryd.ntmps10
  go_wp2_with (go_at_call 15; refine (New_some c hc _ _).mono ?_; rintro e w' ⟨rfl, rfl⟩)
  go_loopw [5, 12] (fun err i wr => ∃ k : Nat, k ≤ m ∧ i = .int .i64 k ∧ Below w.heap.size w wr ∧ Chain wr (.iface 27 (.int .i64 c)) ((ss.take k).reverse ++ [⟨#[]⟩]) err) (fun _ i _ => m - (intOf i).toNat)
  case atStart =>
    refine ⟨0, Nat.zero_le _, rfl, (Below.refl _ _).alloc (Nat.le_refl _) _, w.heap.size, .iface 27 (.int .i64 c), rfl, ?_, rfl⟩
    show (w.heap.push _)[_]? = _
    rw [Array.getElem?_push, if_pos rfl]
  case round =>
    obtain ⟨k, hk, rfl, hB, hch⟩ := hrel
    obtain ⟨u, z, rfl⟩ := hch.iface
    by_cases hlt : k < m
    · obtain ⟨b, off, rfl, hcl⟩ := hcell k hlt
      have hcr : wr.cell? ⟨b, off + k, none⟩ = some (.string (ss.getD k ByteArray.empty)) := by rw [hB.cell (lt_of_cell hcl)]; exact hcl
      clear hcell hcl
      generalize hp : ss.getD k ByteArray.empty = p at *
      have HP : Hid (ss.getD k ByteArray.empty = p) := hp
      clear hp
      go_wp2_with (go_at_call 14; refine (Wrap_some _ _ _ _).mono ?_; rintro e w' ⟨rfl, rfl⟩)
      go_roundw
      case rel =>
        refine ⟨k + 1, by omega, by go_num, hB.alloc hB.size _, ?_⟩
        have e1 : (ss.take (k + 1)).reverse ++ [(⟨#[]⟩ : ByteArray)] = p :: ((ss.take k).reverse ++ [⟨#[]⟩]) := by
          rw [List.take_succ_eq_append_getElem (by omega), List.reverse_append, ← HP.out, getD_lt _ _ _ (show k < ss.length by omega)]
          rfl
        rw [e1]
        refine ⟨wr.heap.size, .iface u z, rfl, ?_, hch.below ((Below.refl _ _).alloc (Nat.le_refl _) _)⟩
        show (wr.heap.push _)[_]? = _
        rw [Array.getElem?_push, if_pos rfl]
      case measure => simp [intOf]; omega
    · obtain rfl : k = m := by omega
      clear hcell
      go_wp2
      go_ret
      exact ⟨_, rfl, hch, hB⟩
end Go.Proofs.YtobdgdbdibnlgaaDoor
