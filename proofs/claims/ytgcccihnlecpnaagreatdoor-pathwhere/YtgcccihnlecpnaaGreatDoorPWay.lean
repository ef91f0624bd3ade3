/-
  The law's Way by its contract. No conditions beyond those stated.
-/
import Derived.Test.YtgcccihnlecpnaaGreatDoorPStrs
import Derived.Test.YtgcccihnlecpnaaGreatDoorPUp
namespace Go.Proofs.YtgcccihnlecpnaaGreatDoor
open Go.RowKit

/-- a way by its bytes. -/
def wayOf (bs : List UInt8) : List ByteArray := (bs.take 4).map fun b => wayAt b.toNat
theorem way_word (m : Nat) (h : m < 10) : (#[Value.string ⟨#[97]⟩, .string ⟨#[98]⟩, .string ⟨#[99]⟩, .string ⟨#[110]⟩, .string ⟨#[48]⟩, .string ⟨#[49]⟩, .string ⟨#[50]⟩, .string ⟨#[48, 48]⟩, .string ⟨#[120]⟩, .string ⟨#[45, 49]⟩])[m]? = some (.string (wayAt m)) := by
  rcases (by omega : m = 0 ∨ m = 1 ∨ m = 2 ∨ m = 3 ∨ m = 4 ∨ m = 5 ∨ m = 6 ∨ m = 7 ∨ m = 8 ∨ m = 9) with rfl | rfl | rfl | rfl | rfl | rfl | rfl | rfl | rfl | rfl <;> rfl
theorem wayAt_mod (i : Nat) : wayAt (i % 10) = wayAt i := by unfold wayAt; rw [Nat.mod_mod]

set_option maxRecDepth 100000 in
set_option maxHeartbeats 2000000 in
theorem Way_any (v : Value) (bs : List UInt8) (w : World) (hb : BytesAt w v bs) :
    Calls Tryz.prog 9 #[v] w fun e w' => ∃ s, e = .returned s ∧ StrsAt w' s (wayOf bs) ∧ Below w.heap.size w w' := by
  obtain ⟨a, cap, rfl, hc1, hc2, hcells⟩ := hb
  obtain ⟨L, hL⟩ : ∃ L, min bs.length 4 = L := ⟨_, rfl⟩
  have hLl : (bs.take 4).length = L := by rw [List.length_take, ← hL, Nat.min_comm]
  have hmin : min (bs.length : Int) 4 = (L : Int) := by omega
  have zL : L ≤ cap := by omega
  have zL4 : L ≤ 4 := by omega
  have zc : (L : Int) ≤ (cap : Int) := by omega
  have z0 : (0 : Int) ≤ (L : Int) := by omega
  go_enter Tryz.func9, Tryz.ntmps9
  go_wp2
  go_loopg [3, 5, 12] L (fun gg sv _ i wr => ∃ k : Nat, k ≤ L ∧ L - k ≤ gg ∧ i = .int .i64 k ∧ Aside (OwS w sv ((wayOf bs).take k) wr))
  case atStart => exact ⟨0, Nat.zero_le _, by omega, rfl, OwS.nil (Below.refl _ _)⟩
  case round =>
    rename_i sv _ _
    obtain ⟨k, hk, hgg, rfl, A⟩ := hrel
    by_cases hlt : k < L
    · obtain ⟨u, hu⟩ : ∃ u, (bs.take 4)[k]? = some u := ⟨_, List.getElem?_eq_getElem (by omega)⟩
      have hu' : bs[k]? = some u := by rw [List.getElem?_take, if_pos (by omega)] at hu; exact hu
      obtain ⟨ab, ao, rfl, hcell⟩ := hcells (fun e => by rw [e] at hu'; simp at hu')
      have c0 := hcell k u hu'
      have c0' : wr.cell? ⟨ab, ao + k, none⟩ = some (.int .u8 u.toNat) := (A.out.below.cell (lt_of_cell c0)).trans c0
      have zk : (k : Int) < (L : Int) := by omega
      obtain ⟨c, hc⟩ : ∃ c : Int, (u.toNat : Int) = c := ⟨_, rfl⟩
      have hu256 := u.toNat_lt
      have b0 : 0 ≤ c := by omega
      have b1 : c ≤ 255 := by omega
      obtain ⟨m, hm⟩ : ∃ m : Nat, c % 10 = (m : Int) := ⟨(c % 10).toNat, by omega⟩
      have hm10 : m < 10 := by omega
      have hmu : u.toNat % 10 = m := by omega
      have hmt : c.tmod 10 = (m : Int) := by rw [Int.tmod_eq_emod_of_nonneg b0]; exact hm
      have hw := way_word m hm10
      obtain ⟨W1, hW1⟩ : ∃ W, wr.alloc (.cells #[Value.string ⟨#[97]⟩, .string ⟨#[98]⟩, .string ⟨#[99]⟩, .string ⟨#[110]⟩, .string ⟨#[48]⟩, .string ⟨#[49]⟩, .string ⟨#[50]⟩, .string ⟨#[48, 48]⟩, .string ⟨#[120]⟩, .string ⟨#[45, 49]⟩] 9) = W := ⟨_, rfl⟩
      have g1 : W1.heap[wr.heap.size]? = some (.cells #[Value.string ⟨#[97]⟩, .string ⟨#[98]⟩, .string ⟨#[99]⟩, .string ⟨#[110]⟩, .string ⟨#[48]⟩, .string ⟨#[49]⟩, .string ⟨#[50]⟩, .string ⟨#[48, 48]⟩, .string ⟨#[120]⟩, .string ⟨#[45, 49]⟩] 9) := by rw [← hW1]; exact heap_alloc_new wr _
      have cm : W1.cell? ⟨wr.heap.size, m, none⟩ = some (.string (wayAt m)) := cell_of_heap g1 hw
      have hsz : W1.heap.size = wr.heap.size + 1 := by rw [← hW1]; simp
      have A1 := (show Hid _ from A.out.same (by rw [← hW1]; exact (Below.refl _ _).alloc (Nat.le_refl _) _ : Below wr.heap.size wr W1))
      have zm : (m : Int) < 10 := by omega
      rw [hc] at c0'
      have HM := (show Hid _ from hmu)
      clear hcell hcells c0 hw g1 hu' hu256 hc hmu
      go_wp2_with (first | (at_builtin; refine append_str rfl (.tmp 16) (.tmp 22) rfl A1.out (wayAt m) rfl _ rfl hsz (by rw [List.length_take]; omega) ?_; intro s1 u1 h1; have H1 := (show Hid _ from h1); clear h1))
      go_roundg (L - (k + 1))
      case measure => omega
      case rel =>
        refine ⟨k + 1, by omega, by omega, by go_num, (show Aside _ from ?_)⟩
        have e : (wayOf bs).take (k + 1) = (wayOf bs).take k ++ [wayAt m] := by
          have hg : (wayOf bs)[k]? = some (wayAt m) := by
            unfold wayOf
            rw [List.getElem?_map, hu, ← HM.out, wayAt_mod]; rfl
          rw [List.take_add_one, hg]; rfl
        rw [e]
        exact H1.out
    · have zk : ¬ (k : Int) < (L : Int) := by omega
      clear hcells
      go_wp2
      go_ret
      have hd : (wayOf bs).take k = wayOf bs := List.take_of_length_le (by unfold wayOf; rw [List.length_map]; omega)
      have hA := A.out
      rw [hd] at hA
      exact ⟨_, rfl, hA.strs, hA.below⟩
end Go.Proofs.YtgcccihnlecpnaaGreatDoor
