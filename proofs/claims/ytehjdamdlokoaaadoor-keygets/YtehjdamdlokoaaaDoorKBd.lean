/-
  The law's Bend by its contract. Condition: the text has at most 10000 bytes.
-/
import Derived.Test.YtehjdamdlokoaaaDoorKL4
import Derived.Lib.ConvBytes
namespace Go.Proofs.YtehjdamdlokoaaaDoor
open Go.RowKit

theorem conv_bytes (w : World) (s : ByteArray) : ∃ (W : World) (C : Nat), (convert 9 22 (.string s)).run Tryd.prog w = .ok (.slice (some ⟨w.heap.size, 0, none⟩) s.size C) W ∧ Below w.heap.size w W ∧ (∀ j, j < s.size → W.cell? ⟨w.heap.size, j, none⟩ = some (.int .u8 ((s.data.toList.getD j 0).toNat : Int))) ∧ (∀ j, j < s.size → W.frozen? ⟨w.heap.size, j, none⟩ = false) := by
  have hcell := fun j hj => Lib.bytesWorld_cell w 5 s j hj
  have hrun := Lib.run_convert_string_bytes (P := Tryd.prog) w 9 22 5 s Tryd.underlying9 Tryd.underlying22 Tryd.underlying5
  have hnew := Lib.bytesWorld_at_new w 5 s
  refine ⟨_, _, hrun, ?_, hcell, fun j hj => ?_⟩
  · have hr2 := run_bytes_of_string (P := Tryd.prog) w 9 22 5 s Tryd.underlying9 Tryd.underlying22 Tryd.underlying5
    rw [hrun] at hr2
    have e := (Result.ok.inj hr2).2
    rw [e]
    exact ((Below.refl w.heap.size w).drew).alloc (Nat.le_refl _) _
  · have hsz : s.size ≤ (Lib.bytesCells w 5 s).size := by
      simp [Lib.bytesCells]
    unfold World.frozen?
    simp only [hnew]
    simp
    omega

set_option maxHeartbeats 1000000 in
set_option maxRecDepth 100000 in
theorem Bend_some (s : ByteArray) (hs : (s.size : Int) ≤ 10000) (hz : 0 < s.size) (a b : Int) (a0 : 0 ≤ a) (a1 : a < 65536) (w : World) : Calls Tryd.prog 18 #[.string s, .int .u16 a, .int .u8 b] w fun e w' => (∃ t : ByteArray, e = .returned (.string t) ∧ t.size = s.size) ∧ Below w.heap.size w w' := by
  have hne : s.toList.isEmpty = false := by
    rw [Lib.toList_data]
    cases h : s.data.toList with
    | nil => have := ksize_list h; rw [List.length_nil] at this; omega
    | cons _ _ => rfl
  obtain ⟨W, C, hcv, hB, hcell, hfr⟩ := conv_bytes w s
  have z0 : ¬ (s.size : Int) = 0 := by omega
  obtain ⟨i, hi⟩ : ∃ i : Nat, a % (s.size : Int) = i := ⟨(a % (s.size : Int)).toNat, by have := Int.emod_nonneg a z0; omega⟩
  have hlt : i < s.size := by have := Int.emod_lt_of_pos a (show (0 : Int) < s.size by omega); omega
  have hci := hcell i hlt
  have hfi := hfr i hlt
  have zi : (i : Int) < (s.size : Int) := by omega
  obtain ⟨y, hy⟩ : ∃ y : UInt8, bits .xor .u8 ((s.data.toList.getD i 0).toNat : Int) b = (y.toNat : Int) := by
    have h1 := bits_lo_u8 .xor ((s.data.toList.getD i 0).toNat : Int) b
    have h2 := bits_hi_u8 .xor ((s.data.toList.getD i 0).toNat : Int) b
    exact ⟨UInt8.ofNat (bits .xor .u8 ((s.data.toList.getD i 0).toNat : Int) b).toNat, by rw [UInt8.toNat_ofNat']; omega⟩
  have hlen : (s.data.toList.set i y).length = s.size := by rw [List.length_set, ← ksize_list rfl]
  have hback := run_convert_bytes_back (P := Tryd.prog) (W.setCell ⟨w.heap.size, i, none⟩ (.int .u8 (bits .xor .u8 ((s.data.toList.getD i 0).toNat : Int) b))) 22 9 5 ⟨w.heap.size, 0, none⟩ C (s.data.toList.set i y) Tryd.underlying22 Tryd.underlying5 Tryd.underlying9 (fun j hj => by
    rw [hlen] at hj
    have hj' : j < s.data.toList.length := by rw [← ksize_list rfl]; exact hj
    have ea : (⟨w.heap.size, 0, none⟩ : Addr).add j = ⟨w.heap.size, j, none⟩ := by simp [Addr.add]; exact fun h => h.symm
    rw [ea]
    by_cases hji : j = i
    · subst hji
      rw [World.cell?_setCell_same _ _ _ hci, hy]
      simp
    · rw [World.cell?_setCell_other _ _ _ _ (by intro h; exact hji (by simpa using h.symm)), hcell j hj]
      have : (s.data.toList.set i y)[j]'(by rw [List.length_set]; exact hj') = s.data.toList[j] := by
        rw [List.getElem_set]
        rw [if_neg (fun h => hji h.symm)]
      rw [this]
      simp [List.getD_eq_getElem?_getD, List.getElem?_eq_getElem hj'])
  rw [hlen] at hback
  have HB : Hid ((⟨(s.data.toList.set i y).toArray⟩ : ByteArray).size = s.size) := by
    show _ = _
    rw [ksize_list (l := s.data.toList.set i y) (by simp)]
    exact hlen
  clear hcell hfr hy hlen
  generalize (s.data.toList.set i y).toArray = ys at *
  generalize (s.data.toList.getD i 0).toNat = x at *
  go_enter Tryd.func18, Tryd.ntmps18
  go_wp2
  go_ret
  exact ⟨⟨_, rfl, HB.out⟩, hB.setCell (Nat.le_refl _) _⟩
theorem Bend_none (s : ByteArray) (hz : s.size = 0) (a b : Int) (w : World) : Calls Tryd.prog 18 #[.string s, .int .u16 a, .int .u8 b] w fun e w' => (∃ t : ByteArray, e = .returned (.string t) ∧ t.size = s.size) ∧ Below w.heap.size w w' := by
  have hne : s.toList.isEmpty = true := by
    rw [Lib.toList_data]
    have : s.data.toList = [] := List.eq_nil_of_length_eq_zero (by rw [← ksize_list rfl]; exact hz)
    rw [this]; rfl
  clear hz
  go_enter Tryd.func18, Tryd.ntmps18
  go_wp2
  go_ret
  exact ⟨⟨_, rfl, rfl⟩, Below.refl _ _⟩

end Go.Proofs.YtehjdamdlokoaaaDoor
