/-
  The law's four digits by their contract, and what is read of them. Conditions: as each states.
-/
import Derived.Test.YtjlfmpibnlihhaaDoorVal
import Derived.BigRegion
namespace Go.Proofs.YtjlfmpibnlihhaaDoor
open Go.RowKit Go.Extern.Stop Go.Stop Go.Extern

theorem conv_four (W : World) (b0 b1 b2 b3 : UInt8) : (convert 39 9 (.slice (some ⟨W.heap.size, 0, none⟩) 4 4)).run Tryd.prog (W.alloc (.cells #[.int .u8 (b0.toNat : Int), .int .u8 (b1.toNat : Int), .int .u8 (b2.toNat : Int), .int .u8 (b3.toNat : Int)] 5)).drew = .ok (.string ⟨#[b0, b1, b2, b3]⟩) (W.alloc (.cells #[.int .u8 (b0.toNat : Int), .int .u8 (b1.toNat : Int), .int .u8 (b2.toNat : Int), .int .u8 (b3.toNat : Int)] 5)).drew :=
  run_convert_bytes_back (P := Tryd.prog) _ 39 9 5 ⟨W.heap.size, 0, none⟩ 4 [b0, b1, b2, b3] Tryd.underlying39 Tryd.underlying5 Tryd.underlying9 (fun j hj => by
    match j, hj with
    | 0, _ => simp [Addr.add]
    | 1, _ => simp [Addr.add]
    | 2, _ => simp [Addr.add]
    | 3, _ => simp [Addr.add])
theorem wraps_u16 (n : Int) (h₀ : 0 ≤ n) (h₁ : n < 2 ^ 16) : IntKind.u16.wrap n = n := by
  simp [IntKind.wrap, IntKind.bits, IntKind.signed]; omega
theorem lower_at : ∀ i : Fin 16, hexv ((⟨#[48, 49, 50, 51, 52, 53, 54, 55, 56, 57, 97, 98, 99, 100, 101, 102]⟩ : ByteArray)[i.val]'(i.isLt)).toNat = some i.val := by decide +kernel
theorem upper_at : ∀ i : Fin 16, hexv ((⟨#[48, 49, 50, 51, 52, 53, 54, 55, 56, 57, 65, 66, 67, 68, 69, 70]⟩ : ByteArray)[i.val]'(i.isLt)).toNat = some i.val := by decide +kernel

/-- a backslash, an u, and the four digits of a number. -/
def Four (s : ByteArray) (n : Nat) : Prop := ∃ b0 b1 b2 b3 : UInt8, s.data.toList = [92, 117, b0, b1, b2, b3] ∧ hexv b0.toNat = some (n / 4096) ∧ hexv b1.toNat = some (n / 256 % 16) ∧ hexv b2.toNat = some (n / 16 % 16) ∧ hexv b3.toNat = some (n % 16)

set_option maxRecDepth 100000 in
set_option maxHeartbeats 4000000 in
theorem four_lower (p : Addr) (z : Int) (h0 : 0 ≤ z) (h1 : z < 65536) (W : World) (hp : W.cell? p = some (.string ⟨#[48, 49, 50, 51, 52, 53, 54, 55, 56, 57, 97, 98, 99, 100, 101, 102]⟩)) :
    Calls Tryd.prog 18 #[.int .u16 z, .pointer (some p)] W fun e w' => (∃ s, e = .returned (.string s) ∧ Four s z.toNat) ∧ Below W.heap.size W w' := by
  have g1 : 0 ≤ z / 4096 := by omega
  have g2 : z / 4096 < 16 := by omega
  have g3 : 0 ≤ z / 256 % 16 := by omega
  have g4 : z / 256 % 16 < 16 := by omega
  have g5 : 0 ≤ z / 16 % 16 := by omega
  have g6 : z / 16 % 16 < 16 := by omega
  have g7 : 0 ≤ z % 16 := by omega
  have g8 : z % 16 < 16 := by omega
  have m1 : bits .and .u16 z 15 = z % 16 := bits_mask .u16 16 (by decide) wraps_u16 4 (by decide) z h0 (by omega)
  have m2 : bits .and .u16 (z / 256) 15 = z / 256 % 16 := bits_mask .u16 16 (by decide) wraps_u16 4 (by decide) _ (by omega) (by omega)
  have m3 : bits .and .u16 (z / 16) 15 = z / 16 % 16 := bits_mask .u16 16 (by decide) wraps_u16 4 (by decide) _ (by omega) (by omega)
  have q0 := lower_at ⟨(z / 4096).toNat, by omega⟩
  have q1 := lower_at ⟨(z / 256 % 16).toNat, by omega⟩
  have q2 := lower_at ⟨(z / 16 % 16).toNat, by omega⟩
  have q3 := lower_at ⟨(z % 16).toNat, by omega⟩
  simp only at q0 q1 q2 q3
  obtain ⟨b0, e0⟩ : ∃ b, (⟨#[48, 49, 50, 51, 52, 53, 54, 55, 56, 57, 97, 98, 99, 100, 101, 102]⟩ : ByteArray)[(z / 4096).toNat]'(show (z / 4096).toNat < 16 by omega) = b := ⟨_, rfl⟩
  obtain ⟨b1, e1⟩ : ∃ b, (⟨#[48, 49, 50, 51, 52, 53, 54, 55, 56, 57, 97, 98, 99, 100, 101, 102]⟩ : ByteArray)[(z / 256 % 16).toNat]'(show (z / 256 % 16).toNat < 16 by omega) = b := ⟨_, rfl⟩
  obtain ⟨b2, e2⟩ : ∃ b, (⟨#[48, 49, 50, 51, 52, 53, 54, 55, 56, 57, 97, 98, 99, 100, 101, 102]⟩ : ByteArray)[(z / 16 % 16).toNat]'(show (z / 16 % 16).toNat < 16 by omega) = b := ⟨_, rfl⟩
  obtain ⟨b3, e3⟩ : ∃ b, (⟨#[48, 49, 50, 51, 52, 53, 54, 55, 56, 57, 97, 98, 99, 100, 101, 102]⟩ : ByteArray)[(z % 16).toNat]'(show (z % 16).toNat < 16 by omega) = b := ⟨_, rfl⟩
  rw [e0] at q0
  rw [e1] at q1
  rw [e2] at q2
  rw [e3] at q3
  have HQ : Hid (hexv b0.toNat = some (z.toNat / 4096) ∧ hexv b1.toNat = some (z.toNat / 256 % 16) ∧ hexv b2.toNat = some (z.toNat / 16 % 16) ∧ hexv b3.toNat = some (z.toNat % 16)) := by
    refine ⟨q0.trans (congrArg some (by omega)), q1.trans (congrArg some (by omega)), q2.trans (congrArg some (by omega)), q3.trans (congrArg some (by omega))⟩
  clear q0 q1 q2 q3
  have hcv := conv_four W b0 b1 b2 b3
  go_enter Tryd.func18, Tryd.ntmps18
  go_wp2
  go_region
  go_wp2
  go_ret
  refine ⟨⟨_, rfl, b0, b1, b2, b3, ?_, HQ.out⟩, ((Below.refl _ _).alloc (Nat.le_refl _) _).drew⟩
  show ((⟨#[92, 117]⟩ : ByteArray) ++ ⟨#[b0, b1, b2, b3]⟩).data.toList = _
  rw [append_list]
  rfl

set_option maxRecDepth 100000 in
set_option maxHeartbeats 4000000 in
theorem four_upper (p : Addr) (z : Int) (h0 : 0 ≤ z) (h1 : z < 65536) (W : World) (hp : W.cell? p = some (.string ⟨#[48, 49, 50, 51, 52, 53, 54, 55, 56, 57, 65, 66, 67, 68, 69, 70]⟩)) :
    Calls Tryd.prog 18 #[.int .u16 z, .pointer (some p)] W fun e w' => (∃ s, e = .returned (.string s) ∧ Four s z.toNat) ∧ Below W.heap.size W w' := by
  have g1 : 0 ≤ z / 4096 := by omega
  have g2 : z / 4096 < 16 := by omega
  have g3 : 0 ≤ z / 256 % 16 := by omega
  have g4 : z / 256 % 16 < 16 := by omega
  have g5 : 0 ≤ z / 16 % 16 := by omega
  have g6 : z / 16 % 16 < 16 := by omega
  have g7 : 0 ≤ z % 16 := by omega
  have g8 : z % 16 < 16 := by omega
  have m1 : bits .and .u16 z 15 = z % 16 := bits_mask .u16 16 (by decide) wraps_u16 4 (by decide) z h0 (by omega)
  have m2 : bits .and .u16 (z / 256) 15 = z / 256 % 16 := bits_mask .u16 16 (by decide) wraps_u16 4 (by decide) _ (by omega) (by omega)
  have m3 : bits .and .u16 (z / 16) 15 = z / 16 % 16 := bits_mask .u16 16 (by decide) wraps_u16 4 (by decide) _ (by omega) (by omega)
  have q0 := upper_at ⟨(z / 4096).toNat, by omega⟩
  have q1 := upper_at ⟨(z / 256 % 16).toNat, by omega⟩
  have q2 := upper_at ⟨(z / 16 % 16).toNat, by omega⟩
  have q3 := upper_at ⟨(z % 16).toNat, by omega⟩
  simp only at q0 q1 q2 q3
  obtain ⟨b0, e0⟩ : ∃ b, (⟨#[48, 49, 50, 51, 52, 53, 54, 55, 56, 57, 65, 66, 67, 68, 69, 70]⟩ : ByteArray)[(z / 4096).toNat]'(show (z / 4096).toNat < 16 by omega) = b := ⟨_, rfl⟩
  obtain ⟨b1, e1⟩ : ∃ b, (⟨#[48, 49, 50, 51, 52, 53, 54, 55, 56, 57, 65, 66, 67, 68, 69, 70]⟩ : ByteArray)[(z / 256 % 16).toNat]'(show (z / 256 % 16).toNat < 16 by omega) = b := ⟨_, rfl⟩
  obtain ⟨b2, e2⟩ : ∃ b, (⟨#[48, 49, 50, 51, 52, 53, 54, 55, 56, 57, 65, 66, 67, 68, 69, 70]⟩ : ByteArray)[(z / 16 % 16).toNat]'(show (z / 16 % 16).toNat < 16 by omega) = b := ⟨_, rfl⟩
  obtain ⟨b3, e3⟩ : ∃ b, (⟨#[48, 49, 50, 51, 52, 53, 54, 55, 56, 57, 65, 66, 67, 68, 69, 70]⟩ : ByteArray)[(z % 16).toNat]'(show (z % 16).toNat < 16 by omega) = b := ⟨_, rfl⟩
  rw [e0] at q0
  rw [e1] at q1
  rw [e2] at q2
  rw [e3] at q3
  have HQ : Hid (hexv b0.toNat = some (z.toNat / 4096) ∧ hexv b1.toNat = some (z.toNat / 256 % 16) ∧ hexv b2.toNat = some (z.toNat / 16 % 16) ∧ hexv b3.toNat = some (z.toNat % 16)) := by
    refine ⟨q0.trans (congrArg some (by omega)), q1.trans (congrArg some (by omega)), q2.trans (congrArg some (by omega)), q3.trans (congrArg some (by omega))⟩
  clear q0 q1 q2 q3
  have hcv := conv_four W b0 b1 b2 b3
  go_enter Tryd.func18, Tryd.ntmps18
  go_wp2
  go_region
  go_wp2
  go_ret
  refine ⟨⟨_, rfl, b0, b1, b2, b3, ?_, HQ.out⟩, ((Below.refl _ _).alloc (Nat.le_refl _) _).drew⟩
  show ((⟨#[92, 117]⟩ : ByteArray) ++ ⟨#[b0, b1, b2, b3]⟩).data.toList = _
  rw [append_list]
  rfl

theorem Four.unit {s : ByteArray} {n : Nat} (h : Four s n) (hn : n < 65536) (r : List UInt8) : unitU (s.data.toList ++ r) = some n := by
  obtain ⟨b0, b1, b2, b3, e, h0, h1, h2, h3⟩ := h
  rw [e]
  show unitU (92 :: 117 :: b0 :: b1 :: b2 :: b3 :: r) = _
  rw [unitU_cons, if_pos ⟨by decide, by decide⟩]
  simp only [unitL, h0, h1, h2, h3]
  congr 1
  omega
theorem Four.len {s : ByteArray} {n : Nat} (h : Four s n) : s.data.toList.length = 6 := by
  obtain ⟨b0, b1, b2, b3, e, _⟩ := h
  rw [e]; rfl
theorem Four.size {s : ByteArray} {n : Nat} (h : Four s n) : s.size = 6 := by
  rw [size_list rfl]; exact h.len
theorem Four.reads {s : ByteArray} {n : Nat} (h : Four s n) (r : List UInt8) : one (s.data.toList ++ r) = unitsL (s.data.toList ++ r) := by
  obtain ⟨b0, b1, b2, b3, e, _⟩ := h
  rw [e]
  have ed := decE 92 (117 :: b0 :: b1 :: b2 :: b3 :: r) (by decide)
  show one (92 :: 117 :: b0 :: b1 :: b2 :: b3 :: r) = unitsL (92 :: 117 :: b0 :: b1 :: b2 :: b3 :: r)
  have e2 : escL (92 :: 117 :: b0 :: b1 :: b2 :: b3 :: r) = unitsL (92 :: 117 :: b0 :: b1 :: b2 :: b3 :: r) := by rw [escL]; exact if_pos (by decide)
  unfold one
  rw [if_neg (by rw [not_or]; exact ⟨by rw [ed]; decide, nbrk_ascii _ _ (by decide)⟩), if_pos (by rw [ed]; rfl), e2]
theorem Four.drop {s : ByteArray} {n : Nat} (h : Four s n) (r : List UInt8) : (s.data.toList ++ r).drop 6 = r := by
  have := h.len
  rw [← this, List.drop_left]
theorem Four.head {s : ByteArray} {n : Nat} (h : Four s n) (r : List UInt8) : ∃ t, s.data.toList ++ r = 92 :: t := by
  obtain ⟨b0, b1, b2, b3, e, _⟩ := h
  rw [e]; exact ⟨_, rfl⟩
/-- between quotes. -/
theorem read_one {s : ByteArray} {n : Nat} (h : Four s n) (_hn : n < 65536) (r : List UInt8) (c k : Nat) (hu : unitsL (s.data.toList ++ r) = some (c, k)) (hk : (s.data.toList ++ r).drop k = [34]) : readL (34 :: (s.data.toList ++ r)) = some (Lib.encodeRune (c : Int), k + 2) := by
  obtain ⟨t, e⟩ := h.head r
  have h1 := h.reads r
  rw [hu, e] at h1
  show (if (34 : UInt8).toNat = 34 then rd (s.data.toList ++ r) [] 1 else none) = _
  rw [if_pos (by decide), e, rd_some 92 t [] 1 c k (by decide) h1, ← e, hk, rd_quote _ _ _ _ (by decide)]
  simp
  omega
theorem read_none {s : ByteArray} {n : Nat} (h : Four s n) (r : List UInt8) (hu : unitsL (s.data.toList ++ r) = none) : readL (34 :: (s.data.toList ++ r)) = none := by
  obtain ⟨t, e⟩ := h.head r
  have h1 := h.reads r
  rw [hu, e] at h1
  show (if (34 : UInt8).toNat = 34 then rd (s.data.toList ++ r) [] 1 else none) = _
  rw [if_pos (by decide), e, rd_none 92 t [] 1 (by decide) h1]
theorem units_plain {s : ByteArray} {n : Nat} (h : Four s n) (hn : n < 65536) (r : List UInt8) (hp : n < 55296 ∨ 57344 ≤ n) : unitsL (s.data.toList ++ r) = some (n, 6) := by
  unfold unitsL
  rw [h.unit hn r]
  simp only
  rw [if_neg (by omega), if_pos hp]
theorem units_secondL {s : ByteArray} {n : Nat} (h : Four s n) (hn : n < 65536) (r : List UInt8) (h0 : 56320 ≤ n) (h1 : n < 57344) : unitsL (s.data.toList ++ r) = none := by
  unfold unitsL
  rw [h.unit hn r]
  simp only
  rw [if_pos ⟨h0, h1⟩]
theorem units_halfL {s : ByteArray} {n : Nat} (h : Four s n) (r : List UInt8) (h0 : 55296 ≤ n) (h1 : n < 56320) (hr : unitU r = none) : unitsL (s.data.toList ++ r) = none := by
  unfold unitsL
  rw [h.unit (by omega) r]
  simp only
  rw [if_neg (by omega), if_neg (by omega), h.drop, hr]
theorem units_pair {s t : ByteArray} {n m : Nat} (h : Four s n) (g : Four t m) (r : List UInt8) (h0 : 55296 ≤ n) (h1 : n < 56320) (g0 : 56320 ≤ m) (g1 : m < 57344) : unitsL (s.data.toList ++ (t.data.toList ++ r)) = some (65536 + (n - 55296) * 1024 + (m - 56320), 12) := by
  unfold unitsL
  rw [h.unit (by omega)]
  simp only
  rw [if_neg (by omega), if_neg (by omega), h.drop, g.unit (by omega)]
  simp only
  rw [if_pos ⟨g0, g1⟩]
theorem pair_drop {s t : ByteArray} {n m : Nat} (h : Four s n) (g : Four t m) (r : List UInt8) : (s.data.toList ++ (t.data.toList ++ r)).drop 12 = r := by
  have e : (s.data.toList ++ (t.data.toList ++ r)).drop 12 = ((s.data.toList ++ (t.data.toList ++ r)).drop 6).drop 6 := by rw [List.drop_drop]
  rw [e, h.drop, g.drop]
end Go.Proofs.YtjlfmpibnlihhaaDoor
