/-
  JsonInts' walk: any number of 64 bits is read. Conditions: as stated.
-/
import Derived.Test.YtnkoblhdbccbeaaGreatDoorJAw
import Derived.Test.YtnkoblhdbccbeaaGreatDoorJRow
import Derived.Test.YtnkoblhdbccbeaaGreatDoorJNum
namespace Go.Proofs.YtnkoblhdbccbeaaGreatDoor
open Go.RowKit Go.Extern.Stop Go.Stop Go.Extern

theorem app_list (a b : ByteArray) : (a ++ b).data.toList = a.data.toList ++ b.data.toList := by simp
theorem app_size (a b : ByteArray) : (a ++ b).size = a.size + b.size := by simp
def fracB : Nat → ByteArray
  | 0 => ⟨#[46, 48]⟩
  | 1 => ⟨#[101, 49]⟩
  | 2 => ⟨#[69, 48]⟩
  | _ => ⟨#[46]⟩
theorem frac_hd (i : Nat) : hd (fracB i).data.toList = 46 ∨ hd (fracB i).data.toList = 101 ∨ hd (fracB i).data.toList = 69 := by
  unfold fracB
  split <;> simp [hd]
theorem frac_size (i : Nat) : (fracB i).size ≤ 2 := by
  unfold fracB
  split <;> decide
theorem frac_at (i : Nat) (hi : i < 4) : ∀ (h : i < [Value.string ⟨#[46, 48]⟩, .string ⟨#[101, 49]⟩, .string ⟨#[69, 48]⟩, .string ⟨#[46]⟩].length), [Value.string ⟨#[46, 48]⟩, .string ⟨#[101, 49]⟩, .string ⟨#[69, 48]⟩, .string ⟨#[46]⟩][i]'h = .string (fracB i) := by
  obtain rfl | rfl | rfl | rfl : i = 0 ∨ i = 1 ∨ i = 2 ∨ i = 3 := by omega
  · exact fun _ => rfl
  · exact fun _ => rfl
  · exact fun _ => rfl
  · exact fun _ => rfl
/-- an error's code, at any later world. -/
theorem Flt.later {c : Int} {w w' : World} {x : Value} (h : Flt c w x) (hE : JEnv w) (hb : Below w.heap.size w w') : Calls Tryz.prog 17 #[x] w' fun e w'' => e = .returned (.int .i64 c) ∧ Below w'.heap.size w' w'' := (h.below hb).code (hE.below hb)

set_option maxRecDepth 100000 in
set_option maxHeartbeats 8000000 in
theorem JsonInts_walk (n : Int) (hn : (Lit.int .i64 n).wf = true) (zero : Bool) (c : Int) (hc : (Lit.int .u8 c).wf = true) (W : World) (hE : JEnv W) :
    Calls Tryz.prog 8 #[.int .i64 n, .bool zero, .int .u8 c] W fun e w' => e = .returned (.bool true) ∧ Below W.heap.size W w' := by
  have hn0 : -9223372036854775808 ≤ n ∧ n ≤ 9223372036854775807 := by
    have h1 : IntKind.i64.min = -9223372036854775808 := rfl
    have h2 : IntKind.i64.max = 9223372036854775807 := rfl
    simp only [Lit.wf, Bool.and_eq_true, decide_eq_true_eq] at hn
    omega
  have hc0 : 0 ≤ c ∧ c ≤ 255 := by
    have h1 : IntKind.u8.min = 0 := rfl
    have h2 : IntKind.u8.max = 255 := rfl
    simp only [Lit.wf, Bool.and_eq_true, decide_eq_true_eq] at hc
    omega
  obtain ⟨z0, z1⟩ := hc0
  obtain ⟨n0, n1⟩ := hn0
  obtain ⟨i, hi⟩ : ∃ i : Nat, c % 4 = (i : Int) := ⟨(c % 4).toNat, by omega⟩
  have hi4 : i < 4 := by omega
  have hlen := Lib.itoa_length_le n n0 n1
  obtain ⟨S, hS⟩ : ∃ S : ByteArray, (⟨(Lib.itoa n).toArray⟩ : ByteArray) = S := ⟨_, rfl⟩
  have hSl : S.data.toList = Lib.itoa n := by rw [← hS]
  have hSz : S.size ≤ 21 := by rw [size_list hSl]; exact hlen
  have haw := awake_true W hE
  have hpr := fun W' (hW : Below W.heap.size W W') => Print_any 0 (intV n) (.slice none 0 0) (.slice none 0 0) W' (hE.below hW) ⟨rfl, rfl, rfl, rfl⟩ ⟨⟨n0, n1⟩, show (0 : Nat) ≤ 1000000 by decide⟩ (by show (Lib.itoa n).length ≤ _; omega)
  simp only [show printV (0 + 1) (intV n) = Lib.itoa n from rfl, hS] at hpr
  have hp1 := fun W' (hW : Below W.heap.size W W') => Parse_any S W' (hE.below hW)
  simp only [hSl, parse_int n n0 n1 (by omega)] at hp1
  have hp2 := fun W' (hW : Below W.heap.size W W') => Parse_any (S ++ fracB i) W' (hE.below hW)
  have hl2 : (Lib.itoa n ++ (fracB i).data.toList).length ≤ 4096 := by
    have := frac_size i
    rw [List.length_append, ← size_list (s := fracB i) rfl]; omega
  simp only [app_list, hSl, parse_frac n _ (frac_hd i) hl2] at hp2
  have HE := (show Hid _ from And.intro hE hSl)
  have hfz := frac_size i
  obtain ⟨FB, hFB⟩ : ∃ FB, fracB i = FB := ⟨_, rfl⟩
  have HLK := (show Hid _ from frac_at i hi4)
  rw [hFB] at HLK
  rw [hFB] at hp2 hfz
  have HI := (show Hid _ from And.intro hi (And.intro hi4 (And.intro hFB (And.intro n0 n1))))
  clear hn hc hE hS hSl hlen hl2 hFB
  go_enter Tryz.func8, Tryz.ntmps8
  go_wp2_with fail
  refine haw.mono ?_
  rintro e w1 ⟨rfl, hb1⟩
  have hpr1 := hpr w1 hb1
  clear haw hpr
  go_wp2_with fail
  refine hpr1.mono ?_
  rintro e w2 ⟨rfl, hb2⟩
  have hB2 := hb1.trans (hb2.mono hb1.size)
  have hp1' := hp1 w2 hB2
  clear hpr1 hp1
  go_wp2_with fail
  refine hp1'.mono ?_
  intro e w3 h3
  obtain ⟨a1, c1, a2, c2, rfl, hr3, hb3⟩ := h3.value
  have hB3 := hB2.trans (hb3.mono hB2.size)
  obtain ⟨O3, hO3⟩ : ∃ O, O = Obj.cells #[.int .i64 2, .int .i64 n, .string ⟨#[]⟩, .slice a1 0 c1, .slice a2 0 c2] 31 := ⟨_, rfl⟩
  have hB3' : Below W.heap.size W (w3.alloc O3) := hB3.alloc hB3.size _
  have H3 := (show Hid _ from And.intro hB3' hO3)
  clear hp1' h3 hr3 hb3 hB3 hB3' hb1 hb2 hB2 hO3
  simp only [intV, List.length_nil] at *
  obtain ⟨O4, hO4⟩ : ∃ O, O = Obj.cells #[.string ⟨#[46, 48]⟩, .string ⟨#[101, 49]⟩, .string ⟨#[69, 48]⟩, .string ⟨#[46]⟩] 9 := ⟨_, rfl⟩
  have hB4 : Below W.heap.size W ((w3.alloc O3).alloc O4) := H3.out.1.alloc H3.out.1.size _
  have hp2' := hp2 _ hB4
  rw [H3.out.2, hO4] at hp2'
  have H4 := (show Hid _ from And.intro hB4 hO4)
  clear hB4 hO4 hp2
  have hlk := HLK.out
  go_wp2_with fail
  refine hp2'.mono ?_
  intro e w5 h5
  obtain ⟨u5, y5, rfl, hx5, hb5⟩ := h5.fault
  obtain ⟨hB4, hO4⟩ := H4.out
  rw [← hO4, ← H3.out.2] at hb5
  have hB5 := hB4.trans (hb5.mono hB4.size)
  obtain ⟨Z, hZ⟩ : ∃ O, O = Obj.cells #[.int .i64 0, .int .i64 0, .string ⟨#[]⟩, .slice none 0 0, .slice none 0 0] 31 := ⟨_, rfl⟩
  have hA5 : Below w5.heap.size w5 (w5.alloc Z) := (Below.refl _ _).alloc (Nat.le_refl _) _
  have hB5' := hB5.trans (hA5.mono hB5.size)
  have hc5 := hx5.later (HE.out.1.below hB5) hA5
  rw [hZ] at hc5
  have H5 := (show Hid _ from And.intro hB5' hZ)
  clear hp2' h5 hx5 hb5 hB4 hO4 hB5 hA5 hB5' hZ
  go_wp2_with fail
  refine hc5.mono ?_
  rintro e w6 ⟨rfl, hb6⟩
  obtain ⟨hB5', hZ⟩ := H5.out
  rw [← hZ] at hb6
  have hB6 := hB5'.trans (hb6.mono hB5'.size)
  obtain ⟨Zr, hZr⟩ : ∃ Zr : ByteArray, Zr = ⟨#[48, 48, 48, 48, 48, 48, 48, 48, 48, 48, 48, 48, 48, 48, 48, 48, 48, 48, 48]⟩ := ⟨_, rfl⟩
  have hp7 := Parse_any (S ++ Zr) w6 (HE.out.1.below hB6)
  have hZl : Zr.data.toList = List.replicate 19 48 := by rw [hZr]; rfl
  rw [app_list, HE.out.2, hZl] at hp7
  obtain ⟨cz, hcz⟩ : ∃ cz : Int, cz = (if n = 0 then 1 else 4) := ⟨_, rfl⟩
  have hpz : parseP (Lib.itoa n ++ List.replicate 19 48) = .error cz := by
    rw [hcz]
    by_cases h0 : n = 0
    · subst h0
      rw [if_pos rfl, itoa_zero]
      kernel_rfl
    · rw [if_neg h0]
      refine parse_zeros n h0 ?_
      have := Lib.itoa_length_le n HI.out.2.2.2.1 HI.out.2.2.2.2
      rw [List.length_append, List.length_replicate]; omega
  rw [hpz, hZr] at hp7
  have H6 := (show Hid _ from And.intro hB6 hcz)
  clear hc5 hB5' hZ hb6 hB6 hpz hZl hZr hcz
  go_wp2_with fail
  refine hp7.mono ?_
  intro e w7 h7
  obtain ⟨u7, y7, rfl, hx7, hb7⟩ := h7.fault
  obtain ⟨hB6, hcz⟩ := H6.out
  have hB7 := hB6.trans (hb7.mono hB6.size)
  have hA7 : Below w7.heap.size w7 (w7.alloc Z) := (Below.refl _ _).alloc (Nat.le_refl _) _
  have hB7' := hB7.trans (hA7.mono hB7.size)
  have hc7 := hx7.later (HE.out.1.below hB7) hA7
  have hp8 := fun W' (hW : Below (w7.alloc Z).heap.size (w7.alloc Z) W') => Parse_any (⟨#[48]⟩ ++ S) W' (HE.out.1.below (hB7'.trans (hW.mono hB7'.size)))
  have hl8 : (48 :: Lib.itoa n).length ≤ 4096 := by
    have := Lib.itoa_length_le n HI.out.2.2.2.1 HI.out.2.2.2.2
    rw [List.length_cons]; omega
  simp only [app_list, HE.out.2, show (⟨#[48]⟩ : ByteArray).data.toList ++ Lib.itoa n = 48 :: Lib.itoa n from rfl, parse_ahead n hl8] at hp8
  rw [H5.out.2] at hc7 hp8
  have H7 := (show Hid _ from And.intro hB7' hcz)
  clear hp7 h7 hx7 hb7 hB6 hcz hB7 hA7 hB7' hl8
  by_cases hn0 : n = 0
  · subst hn0
    have hcz : cz = 1 := H7.out.2
    subst hcz
    go_wp2_with fail
    refine hc7.mono ?_
    rintro e w8 ⟨rfl, hb8⟩
    have hp8' := hp8 _ hb8
    clear hp8 hc7
    go_wp2_with fail
    refine hp8'.mono ?_
    intro e w9 h9
    obtain ⟨u9, y9, rfl, hx9, hb9⟩ := h9.fault
    rw [← H5.out.2] at hb8
    have hB8 := H7.out.1.trans (hb8.mono H7.out.1.size)
    have hB9 := hB8.trans (hb9.mono hB8.size)
    have hA9 : Below w9.heap.size w9 (w9.alloc Z) := (Below.refl _ _).alloc (Nat.le_refl _) _
    have hB9' := hB9.trans (hA9.mono hB9.size)
    have hc9 := hx9.later (HE.out.1.below hB9) hA9
    rw [H5.out.2] at hc9
    have H9 := (show Hid _ from hB9')
    clear hp8' h9 hx9 hb8 hb9 hB8 hB9 hA9 hB9'
    cases zero
    · go_wp2_with fail
      go_ret
      have := H9.out
      rw [H5.out.2] at this
      exact ⟨rfl, this⟩
    · go_wp2_with fail
      refine hc9.mono ?_
      rintro e wA ⟨rfl, hbA⟩
      go_wp2_with fail
      go_ret
      rw [← H5.out.2] at hbA
      exact ⟨rfl, H9.out.trans (hbA.mono H9.out.size)⟩
  · have ne0 : (n == 0) = false := by simp; omega
    have ne0' : (n != 0) = true := by simp; omega
    have hcz : cz = 4 := by rw [H7.out.2, if_neg hn0]
    subst hcz
    go_wp2_with fail
    refine hc7.mono ?_
    rintro e w8 ⟨rfl, hb8⟩
    have hp8' := hp8 _ hb8
    clear hp8 hc7
    go_wp2_with fail
    refine hp8'.mono ?_
    intro e w9 h9
    obtain ⟨u9, y9, rfl, hx9, hb9⟩ := h9.fault
    rw [← H5.out.2] at hb8
    have hB8 := H7.out.1.trans (hb8.mono H7.out.1.size)
    have hB9 := hB8.trans (hb9.mono hB8.size)
    have hA9 : Below w9.heap.size w9 (w9.alloc Z) := (Below.refl _ _).alloc (Nat.le_refl _) _
    have hB9' := hB9.trans (hA9.mono hB9.size)
    have hc9 := hx9.later (HE.out.1.below hB9) hA9
    rw [H5.out.2] at hc9
    have H9 := (show Hid _ from hB9')
    clear hp8' h9 hx9 hb8 hb9 hB8 hB9 hA9 hB9'
    cases zero
    · go_wp2_with fail
      go_ret
      have := H9.out
      rw [H5.out.2] at this
      exact ⟨rfl, this⟩
    · go_wp2_with fail
      refine hc9.mono ?_
      rintro e wA ⟨rfl, hbA⟩
      go_wp2_with fail
      go_ret
      rw [← H5.out.2] at hbA
      exact ⟨rfl, H9.out.trans (hbA.mono H9.out.size)⟩
end Go.Proofs.YtnkoblhdbccbeaaGreatDoor
