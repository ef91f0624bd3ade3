/-
  The law's Put, by its contract: kinds that have no rows. Conditions: as stated.
-/
import Derived.Test.YtehjdamdlokoaaaDoorKL1
namespace Go.Proofs.YtehjdamdlokoaaaDoor
open Go.RowKit

/-- a byte as a text. -/
theorem byte_str (W : World) (b : Nat) (hb : W.heap.size = b) (k : Int) (h0 : 0 ≤ k) (h1 : k < 256) : (convert 22 9 (.slice (some ⟨b, 0, none⟩) 1 1)).run Tryd.prog (W.alloc (.cells #[.int .u8 k] 5)) = .ok (.string ⟨#[UInt8.ofNat k.toNat]⟩) (W.alloc (.cells #[.int .u8 k] 5)) := by
  subst hb
  refine run_convert_bytes_back _ 22 9 5 ⟨W.heap.size, 0, none⟩ 1 [UInt8.ofNat k.toNat] Tryd.underlying22 Tryd.underlying5 Tryd.underlying9 fun j hj => ?_
  have hj0 : j = 0 := by simp at hj; exact hj
  subst hj0
  have e : (UInt8.ofNat k.toNat).toNat = k.toNat := by rw [UInt8.toNat_ofNat']; omega
  have e2 : ((([UInt8.ofNat k.toNat])[0]'hj).toNat : Int) = k := by
    show ((UInt8.ofNat k.toNat).toNat : Int) = k
    rw [e]; omega
  rw [e2]
  exact cellK (heap_alloc_new W (.cells #[.int .u8 k] 5 (0, 0))) rfl
theorem xor_u64 (n : Int) (h : I64 n) : bits .xor .u64 (IntKind.u64.wrap n) 9223372036854775808 = (turnN n : Int) := by
  obtain ⟨h1, h2⟩ := h
  show IntKind.u64.wrap ((BitVec.ofInt 64 (IntKind.u64.wrap n) ^^^ BitVec.ofInt 64 9223372036854775808).toNat : Int) = _
  have e1 : (BitVec.ofInt 64 9223372036854775808).toNat = 9223372036854775808 := by decide
  have ew : IntKind.u64.wrap n = if n < 0 then n + 18446744073709551616 else n := by rw [IntKind.wrap_u64]; split <;> omega
  obtain ⟨a, ha⟩ : ∃ a : Nat, IntKind.u64.wrap n = (a : Int) := ⟨(IntKind.u64.wrap n).toNat, by rw [ew]; split <;> omega⟩
  have ha2 : a < 18446744073709551616 := by rw [ew] at ha; split at ha <;> omega
  have e2 : (BitVec.ofInt 64 (a : Int)).toNat = a := by
    rw [BitVec.ofInt_natCast, BitVec.toNat_ofNat]; exact Nat.mod_eq_of_lt (by omega)
  rw [ha, BitVec.toNat_xor, e1, e2, nat_xor_top a ha2, IntKind.wrap_u64]
  rw [ew] at ha
  unfold turnN
  split at ha <;> split <;> omega
theorem byte_of (U : Int) (m K : Nat) (hU : (m : Int) = U) : UInt8.ofNat (U / (K : Int) % 256).toNat = UInt8.ofNat (m / K) := by
  subst hU
  apply UInt8.toNat_inj.1
  rw [UInt8.toNat_ofNat', UInt8.toNat_ofNat']
  omega
theorem byte_of1 (U : Int) (m : Nat) (hU : (m : Int) = U) : UInt8.ofNat (U % 256).toNat = UInt8.ofNat m := by
  subst hU
  apply UInt8.toNat_inj.1
  rw [UInt8.toNat_ofNat', UInt8.toNat_ofNat']
  omega
theorem kd_below {kd num : Int} {text : ByteArray} {a1 : Option Addr} {n1 c1 : Nat} {a2 : Option Addr} {n2 c2 : Nat} (w : World) {o : Obj} : Below w.heap.size w ((w.alloc (.cells #[.int .i64 kd, .int .i64 num, .string text, .slice a1 n1 c1, .slice a2 n2 c2] 28)).alloc o) :=
  ((Below.refl _ _).alloc (Nat.le_refl _) _).alloc (by simp) _

set_option maxRecDepth 100000 in
set_option maxHeartbeats 4000000 in
theorem lput_bare (num : Int) (text : ByteArray) (a1 : Option Addr) (n1 c1 : Nat) (a2 : Option Addr) (n2 c2 : Nat) (w : World) :
    Calls Tryd.prog 12 #[.agg #[.int .i64 0, .int .i64 num, .string text, .slice a1 n1 c1, .slice a2 n2 c2]] w fun e w' => e = .returned (.string ⟨#[1]⟩) ∧ Below w.heap.size w w' := by
  have hcv := byte_str (w.alloc (.cells #[.int .i64 0, .int .i64 num, .string text, .slice a1 n1 c1, .slice a2 n2 c2] 28)) (w.heap.size + 1) (by simp) 1 (by decide) (by decide)
  rw [show UInt8.ofNat (1 : Int).toNat = 1 from rfl] at hcv
  go_enter Tryd.func12, Tryd.ntmps12
  go_wp2_with fail
  go_ret
  exact ⟨rfl, kd_below w⟩
set_option maxRecDepth 100000 in
set_option maxHeartbeats 4000000 in
theorem lput_bool (text : ByteArray) (a1 : Option Addr) (n1 c1 : Nat) (a2 : Option Addr) (n2 c2 : Nat) (w : World) (num : Int) (hn : num = 0 ∨ num = 1) :
    Calls Tryd.prog 12 #[.agg #[.int .i64 1, .int .i64 num, .string text, .slice a1 n1 c1, .slice a2 n2 c2]] w fun e w' => e = .returned (.string ⟨#[2, UInt8.ofNat num.toNat]⟩) ∧ Below w.heap.size w w' := by
  have hcv := byte_str (w.alloc (.cells #[.int .i64 1, .int .i64 num, .string text, .slice a1 n1 c1, .slice a2 n2 c2] 28)) (w.heap.size + 1) (by simp) 2 (by decide) (by decide)
  rw [show UInt8.ofNat (2 : Int).toNat = 2 from rfl] at hcv
  have hcw := byte_str ((w.alloc (.cells #[.int .i64 1, .int .i64 num, .string text, .slice a1 n1 c1, .slice a2 n2 c2] 28)).alloc (.cells #[.int .u8 2] 5)) (w.heap.size + 1 + 1) (by simp) num (by omega) (by omega)
  rcases hn with rfl | rfl
  · rw [show UInt8.ofNat (0 : Int).toNat = 0 from rfl] at hcw
    show Calls _ _ _ _ fun e w' => e = .returned (.string ⟨#[2, 0]⟩) ∧ _
    go_enter Tryd.func12, Tryd.ntmps12
    go_wp2_with fail
    go_ret
    exact ⟨rfl, (kd_below w).alloc (by simp; omega) _⟩
  · rw [show UInt8.ofNat (1 : Int).toNat = 1 from rfl] at hcw
    show Calls _ _ _ _ fun e w' => e = .returned (.string ⟨#[2, 1]⟩) ∧ _
    go_enter Tryd.func12, Tryd.ntmps12
    go_wp2_with fail
    go_ret
    exact ⟨rfl, (kd_below w).alloc (by simp; omega) _⟩
set_option maxRecDepth 100000 in
set_option maxHeartbeats 4000000 in
theorem lput_text (num : Int) (text : ByteArray) (a1 : Option Addr) (n1 c1 : Nat) (a2 : Option Addr) (n2 c2 : Nat) (w : World) (ht : text.size ≤ 1000000) :
    Calls Tryd.prog 12 #[.agg #[.int .i64 3, .int .i64 num, .string text, .slice a1 n1 c1, .slice a2 n2 c2]] w fun e w' => e = .returned (.string ⟨(4 :: writtenL text.data.toList).toArray⟩) ∧ Below w.heap.size w w' := by
  have hcv := byte_str (w.alloc (.cells #[.int .i64 3, .int .i64 num, .string text, .slice a1 n1 c1, .slice a2 n2 c2] 28)) (w.heap.size + 1) (by simp) 4 (by decide) (by decide)
  rw [show UInt8.ofNat (4 : Int).toNat = 4 from rfl] at hcv
  have hwr := fun W => lwritten_any text ht W
  have hlen := written_len text.data.toList
  rw [← ba_size] at hlen
  obtain ⟨P, hP⟩ : ∃ P : ByteArray, (⟨(writtenL text.data.toList).toArray⟩ : ByteArray) = P := ⟨_, rfl⟩
  have hPl : P.data.toList = writtenL text.data.toList := by rw [← hP]
  have hPz : P.size ≤ 3000000 := by rw [ba_size, hPl]; omega
  rw [hP] at hwr
  obtain ⟨R, hR⟩ : ∃ R : ByteArray, (⟨(4 :: writtenL text.data.toList).toArray⟩ : ByteArray) = R := ⟨_, rfl⟩
  rw [hR]
  have HP := (show Hid _ from And.intro hPl hR)
  clear hP hPl hR hlen ht
  go_enter Tryd.func12, Tryd.ntmps12
  go_wp2_with fail
  refine (hwr _).mono ?_
  rintro e w1 ⟨rfl, hw1⟩
  clear hwr
  have H1 : Hid (Below w.heap.size w w1) := by rw [hw1]; exact kd_below w
  clear hw1
  go_wp2_with fail
  go_ret
  refine ⟨?_, H1.out⟩
  rw [← HP.out.2, kof_list (a := ⟨#[4]⟩ ++ P) (l := 4 :: writtenL text.data.toList) (by rw [kapp_list, HP.out.1]; rfl)]
  rfl
set_option maxRecDepth 100000 in
set_option maxHeartbeats 4000000 in
theorem lput_int (num : Int) (text : ByteArray) (a1 : Option Addr) (n1 c1 : Nat) (a2 : Option Addr) (n2 c2 : Nat) (w : World) (hn : I64 num) :
    Calls Tryd.prog 12 #[.agg #[.int .i64 2, .int .i64 num, .string text, .slice a1 n1 c1, .slice a2 n2 c2]] w fun e w' => e = .returned (.string ⟨(3 :: intL num).toArray⟩) ∧ Below w.heap.size w w' := by
  have hcv := byte_str (w.alloc (.cells #[.int .i64 2, .int .i64 num, .string text, .slice a1 n1 c1, .slice a2 n2 c2] 28)) (w.heap.size + 1) (by simp) 3 (by decide) (by decide)
  rw [show UInt8.ofNat (3 : Int).toNat = 3 from rfl] at hcv
  have hx := xor_u64 num hn
  obtain ⟨m, hm⟩ : ∃ m, turnN num = m := ⟨_, rfl⟩
  obtain ⟨U, hU⟩ : ∃ U : Int, (m : Int) = U := ⟨_, rfl⟩
  rw [hm, hU] at hx
  have hI : intL num = eight m := by rw [← hm]; rfl
  rw [hI]
  obtain ⟨R, hR⟩ : ∃ R : ByteArray, (⟨(3 :: eight m).toArray⟩ : ByteArray) = R := ⟨_, rfl⟩
  rw [hR]
  have HH := (show Hid _ from And.intro hU hR)
  clear hn hm hU hI hR
  go_enter Tryd.func12, Tryd.ntmps12
  go_wp2_with fail
  go_loopg [3, 5] 8 (fun gg o i wr => ∃ (k : Nat) (B : ByteArray), k ≤ 8 ∧ 8 - k ≤ gg ∧ i = .int .i64 (56 - 8 * (k : Int)) ∧ o = .string B ∧ B.size ≤ 1 + k ∧ Aside (B.data.toList = 3 :: (eight m).take k) ∧ Aside (Below w.heap.size w wr))
  case atStart => exact ⟨0, ⟨#[3]⟩, by omega, by omega, rfl, rfl, by decide, rfl, kd_below w⟩
  case round =>
    obtain ⟨k, B, hk, hgg, rfl, rfl, hBz, hB, hW⟩ := hrel
    have hUm := HH.out.1
    obtain rfl | rfl | rfl | rfl | rfl | rfl | rfl | rfl | rfl : k = 0 ∨ k = 1 ∨ k = 2 ∨ k = 3 ∨ k = 4 ∨ k = 5 ∨ k = 6 ∨ k = 7 ∨ k = 8 := by omega
    · rw [show (56 - 8 * ((0 : Nat) : Int)) = 56 from rfl]
      have hcb := byte_str wr wr.heap.size rfl (U / 72057594037927936 % 256) (by omega) (by omega)
      rw [show UInt8.ofNat (U / 72057594037927936 % 256).toNat = UInt8.ofNat (m / 72057594037927936) from byte_of U m 72057594037927936 hUm] at hcb
      have hE1 : (⟨#[UInt8.ofNat (m / 72057594037927936)]⟩ : ByteArray).data.toList = [UInt8.ofNat (m / 72057594037927936)] := rfl
      have hE2 : (⟨#[UInt8.ofNat (m / 72057594037927936)]⟩ : ByteArray).size = 1 := rfl
      generalize (⟨#[UInt8.ofNat (m / 72057594037927936)]⟩ : ByteArray) = E at hcb hE1 hE2
      have HE := (show Hid _ from hE1)
      clear hE1 hUm
      go_wp2_with fail
      go_roundg (7)
      case measure => omega
      case rel =>
        refine ⟨1, B ++ E, by omega, by omega, by go_num, rfl, by rw [ByteArray.size_append]; omega, ?_, hW.out.alloc hW.out.size _⟩
        show _ = _
        rw [kapp_list, hB.out, HE.out]; rfl
    · rw [show (56 - 8 * ((1 : Nat) : Int)) = 48 from rfl]
      have hcb := byte_str wr wr.heap.size rfl (U / 281474976710656 % 256) (by omega) (by omega)
      rw [show UInt8.ofNat (U / 281474976710656 % 256).toNat = UInt8.ofNat (m / 281474976710656) from byte_of U m 281474976710656 hUm] at hcb
      have hE1 : (⟨#[UInt8.ofNat (m / 281474976710656)]⟩ : ByteArray).data.toList = [UInt8.ofNat (m / 281474976710656)] := rfl
      have hE2 : (⟨#[UInt8.ofNat (m / 281474976710656)]⟩ : ByteArray).size = 1 := rfl
      generalize (⟨#[UInt8.ofNat (m / 281474976710656)]⟩ : ByteArray) = E at hcb hE1 hE2
      have HE := (show Hid _ from hE1)
      clear hE1 hUm
      go_wp2_with fail
      go_roundg (6)
      case measure => omega
      case rel =>
        refine ⟨2, B ++ E, by omega, by omega, by go_num, rfl, by rw [ByteArray.size_append]; omega, ?_, hW.out.alloc hW.out.size _⟩
        show _ = _
        rw [kapp_list, hB.out, HE.out]; rfl
    · rw [show (56 - 8 * ((2 : Nat) : Int)) = 40 from rfl]
      have hcb := byte_str wr wr.heap.size rfl (U / 1099511627776 % 256) (by omega) (by omega)
      rw [show UInt8.ofNat (U / 1099511627776 % 256).toNat = UInt8.ofNat (m / 1099511627776) from byte_of U m 1099511627776 hUm] at hcb
      have hE1 : (⟨#[UInt8.ofNat (m / 1099511627776)]⟩ : ByteArray).data.toList = [UInt8.ofNat (m / 1099511627776)] := rfl
      have hE2 : (⟨#[UInt8.ofNat (m / 1099511627776)]⟩ : ByteArray).size = 1 := rfl
      generalize (⟨#[UInt8.ofNat (m / 1099511627776)]⟩ : ByteArray) = E at hcb hE1 hE2
      have HE := (show Hid _ from hE1)
      clear hE1 hUm
      go_wp2_with fail
      go_roundg (5)
      case measure => omega
      case rel =>
        refine ⟨3, B ++ E, by omega, by omega, by go_num, rfl, by rw [ByteArray.size_append]; omega, ?_, hW.out.alloc hW.out.size _⟩
        show _ = _
        rw [kapp_list, hB.out, HE.out]; rfl
    · rw [show (56 - 8 * ((3 : Nat) : Int)) = 32 from rfl]
      have hcb := byte_str wr wr.heap.size rfl (U / 4294967296 % 256) (by omega) (by omega)
      rw [show UInt8.ofNat (U / 4294967296 % 256).toNat = UInt8.ofNat (m / 4294967296) from byte_of U m 4294967296 hUm] at hcb
      have hE1 : (⟨#[UInt8.ofNat (m / 4294967296)]⟩ : ByteArray).data.toList = [UInt8.ofNat (m / 4294967296)] := rfl
      have hE2 : (⟨#[UInt8.ofNat (m / 4294967296)]⟩ : ByteArray).size = 1 := rfl
      generalize (⟨#[UInt8.ofNat (m / 4294967296)]⟩ : ByteArray) = E at hcb hE1 hE2
      have HE := (show Hid _ from hE1)
      clear hE1 hUm
      go_wp2_with fail
      go_roundg (4)
      case measure => omega
      case rel =>
        refine ⟨4, B ++ E, by omega, by omega, by go_num, rfl, by rw [ByteArray.size_append]; omega, ?_, hW.out.alloc hW.out.size _⟩
        show _ = _
        rw [kapp_list, hB.out, HE.out]; rfl
    · rw [show (56 - 8 * ((4 : Nat) : Int)) = 24 from rfl]
      have hcb := byte_str wr wr.heap.size rfl (U / 16777216 % 256) (by omega) (by omega)
      rw [show UInt8.ofNat (U / 16777216 % 256).toNat = UInt8.ofNat (m / 16777216) from byte_of U m 16777216 hUm] at hcb
      have hE1 : (⟨#[UInt8.ofNat (m / 16777216)]⟩ : ByteArray).data.toList = [UInt8.ofNat (m / 16777216)] := rfl
      have hE2 : (⟨#[UInt8.ofNat (m / 16777216)]⟩ : ByteArray).size = 1 := rfl
      generalize (⟨#[UInt8.ofNat (m / 16777216)]⟩ : ByteArray) = E at hcb hE1 hE2
      have HE := (show Hid _ from hE1)
      clear hE1 hUm
      go_wp2_with fail
      go_roundg (3)
      case measure => omega
      case rel =>
        refine ⟨5, B ++ E, by omega, by omega, by go_num, rfl, by rw [ByteArray.size_append]; omega, ?_, hW.out.alloc hW.out.size _⟩
        show _ = _
        rw [kapp_list, hB.out, HE.out]; rfl
    · rw [show (56 - 8 * ((5 : Nat) : Int)) = 16 from rfl]
      have hcb := byte_str wr wr.heap.size rfl (U / 65536 % 256) (by omega) (by omega)
      rw [show UInt8.ofNat (U / 65536 % 256).toNat = UInt8.ofNat (m / 65536) from byte_of U m 65536 hUm] at hcb
      have hE1 : (⟨#[UInt8.ofNat (m / 65536)]⟩ : ByteArray).data.toList = [UInt8.ofNat (m / 65536)] := rfl
      have hE2 : (⟨#[UInt8.ofNat (m / 65536)]⟩ : ByteArray).size = 1 := rfl
      generalize (⟨#[UInt8.ofNat (m / 65536)]⟩ : ByteArray) = E at hcb hE1 hE2
      have HE := (show Hid _ from hE1)
      clear hE1 hUm
      go_wp2_with fail
      go_roundg (2)
      case measure => omega
      case rel =>
        refine ⟨6, B ++ E, by omega, by omega, by go_num, rfl, by rw [ByteArray.size_append]; omega, ?_, hW.out.alloc hW.out.size _⟩
        show _ = _
        rw [kapp_list, hB.out, HE.out]; rfl
    · rw [show (56 - 8 * ((6 : Nat) : Int)) = 8 from rfl]
      have hcb := byte_str wr wr.heap.size rfl (U / 256 % 256) (by omega) (by omega)
      rw [show UInt8.ofNat (U / 256 % 256).toNat = UInt8.ofNat (m / 256) from byte_of U m 256 hUm] at hcb
      have hE1 : (⟨#[UInt8.ofNat (m / 256)]⟩ : ByteArray).data.toList = [UInt8.ofNat (m / 256)] := rfl
      have hE2 : (⟨#[UInt8.ofNat (m / 256)]⟩ : ByteArray).size = 1 := rfl
      generalize (⟨#[UInt8.ofNat (m / 256)]⟩ : ByteArray) = E at hcb hE1 hE2
      have HE := (show Hid _ from hE1)
      clear hE1 hUm
      go_wp2_with fail
      go_roundg (1)
      case measure => omega
      case rel =>
        refine ⟨7, B ++ E, by omega, by omega, by go_num, rfl, by rw [ByteArray.size_append]; omega, ?_, hW.out.alloc hW.out.size _⟩
        show _ = _
        rw [kapp_list, hB.out, HE.out]; rfl
    · rw [show (56 - 8 * ((7 : Nat) : Int)) = 0 from rfl]
      have hcb := byte_str wr wr.heap.size rfl (U % 256) (by omega) (by omega)
      rw [byte_of1 U m hUm] at hcb
      have hE1 : (⟨#[UInt8.ofNat (m)]⟩ : ByteArray).data.toList = [UInt8.ofNat (m)] := rfl
      have hE2 : (⟨#[UInt8.ofNat (m)]⟩ : ByteArray).size = 1 := rfl
      generalize (⟨#[UInt8.ofNat (m)]⟩ : ByteArray) = E at hcb hE1 hE2
      have HE := (show Hid _ from hE1)
      clear hE1 hUm
      go_wp2_with fail
      go_roundg (0)
      case measure => omega
      case rel =>
        refine ⟨8, B ++ E, by omega, by omega, by go_num, rfl, by rw [ByteArray.size_append]; omega, ?_, hW.out.alloc hW.out.size _⟩
        show _ = _
        rw [kapp_list, hB.out, HE.out]; rfl
    · rw [show (56 - 8 * ((8 : Nat) : Int)) = -8 from rfl]
      clear hUm
      go_wp2_with fail
      go_ret
      refine ⟨?_, hW.out⟩
      rw [← HH.out.2, kof_list (a := B) (l := 3 :: eight m) (by rw [hB.out]; rfl)]
      rfl
end Go.Proofs.YtehjdamdlokoaaaDoor
