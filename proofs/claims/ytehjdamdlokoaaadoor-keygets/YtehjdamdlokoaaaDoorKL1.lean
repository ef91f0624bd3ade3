/-
  The law's written, by its contract. Conditions: as stated.
-/
import Derived.Test.YtehjdamdlokoaaaDoorKP
import Derived.BigQuiet
namespace Go.Proofs.YtehjdamdlokoaaaDoor
open Go.RowKit

theorem kslice (s : ByteArray) (k : Nat) (h : k + 1 ≤ s.size) (W : World) : (Instr.slice 9 (.string s) (some (.int .i64 (k : Int))) (some (.int .i64 ((k : Int) + 1))) none).run Tryd.prog W = .ok (.string (s.extract k (k + 1))) W := by
  rw [run_slice_string (P := Tryd.prog) W 9 s .i64 .i64 _ _ Tryd.underlying9 (by omega) (by omega) (by omega)]
  have e1 : ((k : Int)).toNat = k := by omega
  have e2 : ((k : Int) + 1).toNat = k + 1 := by omega
  rw [e1, e2]
theorem one_list (s : ByteArray) (k : Nat) (h : k < s.size) : (s.extract k (k + 1)).data.toList = [s[k]] := by
  have e : (s.extract k (k + 1)).data.toList = (s.data.toList.drop k).take 1 := by
    rw [ByteArray.data_extract, Array.toList_extract, List.extract_eq_take_drop, Nat.add_sub_cancel_left]
  have hl : k < s.data.toList.length := by rw [← ba_size]; exact h
  rw [e, List.drop_eq_getElem_cons hl]
  rfl
theorem kapp_list (a b : ByteArray) : (a ++ b).data.toList = a.data.toList ++ b.data.toList := by simp
theorem kof_list {a : ByteArray} {l : List UInt8} (h : a.data.toList = l) : a = ⟨l.toArray⟩ := by
  apply ByteArray.ext; apply Array.ext'; rw [h]

set_option maxRecDepth 100000 in
set_option maxHeartbeats 4000000 in
theorem lwritten_any (s : ByteArray) (hs : s.size ≤ 1000000) (w : World) : Calls Tryd.prog 22 #[.string s] w fun e w' => e = .returned (.string ⟨(writtenL s.data.toList).toArray⟩) ∧ w' = w := by
  obtain ⟨R, hR⟩ : ∃ R : ByteArray, (⟨(writtenL s.data.toList).toArray⟩ : ByteArray) = R := ⟨_, rfl⟩
  rw [hR]
  have HR := (show Hid _ from hR)
  clear hR
  go_enter Tryd.func22, Tryd.ntmps22
  go_wp2_with fail
  go_loopg [3, 4] s.size (fun gg o i wr => ∃ (k : Nat) (B : ByteArray), k ≤ s.size ∧ s.size - k ≤ gg ∧ i = .int .i64 k ∧ o = .string B ∧ B.size ≤ 2 * k ∧ Aside (B.data.toList = (s.data.toList.take k).flatMap wr1) ∧ Aside (wr = w))
  case atStart => exact ⟨0, ⟨#[]⟩, Nat.zero_le _, by omega, rfl, rfl, by decide, rfl, rfl⟩
  case round =>
    obtain ⟨k, B, hk, hgg, rfl, rfl, hBz, hB, hW⟩ := hrel
    by_cases hlt : k < s.size
    · have zk : (k : Int) < (s.size : Int) := by omega
      have zk0 : (0 : Int) ≤ (k : Int) := by omega
      have hsl := kslice s k (by omega)
      have hE := one_list s k hlt
      have hEz : (s.extract k (k + 1)).size ≤ 1 := by rw [ba_size, hE]; simp
      have htk : s.data.toList.take (k + 1) = s.data.toList.take k ++ [s[k]] := by
        have hl : k < s.data.toList.length := by rw [← ba_size]; exact hlt
        rw [List.take_add_one, List.getElem?_eq_getElem hl]; rfl
      generalize s.extract k (k + 1) = E at *
      have HE := (show Hid _ from And.intro hE htk)
      clear hE htk
      by_cases h0 : s[k] = 0
      · have h0' : ((s[k].toNat : Int) == 0) = true := by rw [h0]; rfl
        go_wp2_with fail
        go_roundg (s.size - (k + 1))
        case measure => omega
        case rel =>
          obtain ⟨hE, htk⟩ := HE.out
          refine ⟨k + 1, _, by omega, by omega, by go_num, rfl, ?_, ?_, hW.out⟩
          · simp only [ByteArray.size_append]; have : (⟨#[255]⟩ : ByteArray).size = 1 := rfl; omega
          · show _ = _
            rw [htk, kapp_list, kapp_list, hB.out, hE, h0]; simp [wr1]
      · have h0' : ((s[k].toNat : Int) == 0) = false := by
          simp
          intro e
          exact h0 (UInt8.toNat_inj.1 (by simpa using e))
        go_wp2_with fail
        go_roundg (s.size - (k + 1))
        case measure => omega
        case rel =>
          obtain ⟨hE, htk⟩ := HE.out
          refine ⟨k + 1, _, by omega, by omega, by go_num, rfl, ?_, ?_, hW.out⟩
          · simp only [ByteArray.size_append]; omega
          · show _ = _
            rw [htk, kapp_list, hB.out, hE]; simp [wr1, h0]
    · have zk : ¬ (k : Int) < (s.size : Int) := by omega
      have htk : s.data.toList.take k = s.data.toList := List.take_of_length_le (by rw [← ba_size]; omega)
      have HT := (show Hid _ from htk)
      clear htk
      go_wp2_with fail
      go_ret
      refine ⟨?_, hW.out⟩
      rw [← HR.out, kof_list (a := B ++ ⟨#[0, 1]⟩) (l := writtenL s.data.toList) (by rw [kapp_list, hB.out, HT.out]; rfl)]
      rfl
end Go.Proofs.YtehjdamdlokoaaaDoor
