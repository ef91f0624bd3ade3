/-
  TextUnits: four digits of base 16 are one character, eight are one where they must be; half of one is wrong: for every two numbers, with small or great letters. No conditions.
-/
import Derived.Test.YtjlfmpibnlihhaaDoorRow
import Derived.Test.YtjlfmpibnlihhaaDoorFour
namespace Go.Proofs.YtjlfmpibnlihhaaDoor
open Go.RowKit Go.Extern.Stop Go.Stop Go.Extern

theorem conv_any (W : World) (z : Int) : (convert 41 9 (.slice (some ⟨W.heap.size, 0, none⟩) 1 1)).run Tryd.prog (W.alloc (.cells #[.int .i32 z] 21)) = .ok (.string (Utf8.encode z)) (W.alloc (.cells #[.int .i32 z] 21)) := by
  rw [run_convert_runes (P := Tryd.prog) _ 41 9 21 ⟨W.heap.size, 0, none⟩ 1 1 [z] (by simp) Tryd.underlying41 Tryd.underlying21 Tryd.underlying9 (fun j hj => by
    match j, hj with
    | 0, _ => simp [Addr.add])]
  simp [runesBytes]

/-- the law's closure tells four digits, wherever its variable lies as it was. -/
def Digs (p : Addr) (W : World) : Prop := ∀ (W' : World), Below W.heap.size W W' → ∀ z : Int, 0 ≤ z → z < 65536 → Calls Tryd.prog 18 #[.int .u16 z, .pointer (some p)] W' fun e w' => (∃ s, e = .returned (.string s) ∧ Four s z.toNat) ∧ Below W'.heap.size W' w'
theorem digs_lower (W : World) : Digs ⟨W.heap.size, 0, none⟩ (W.alloc (.cells #[.string ⟨#[48, 49, 50, 51, 52, 53, 54, 55, 56, 57, 97, 98, 99, 100, 101, 102]⟩] 9)) := by
  intro W' hB z h0 h1
  have hc : (W.alloc (.cells #[.string ⟨#[48, 49, 50, 51, 52, 53, 54, 55, 56, 57, 97, 98, 99, 100, 101, 102]⟩] 9)).cell? ⟨W.heap.size, 0, none⟩ = some (.string ⟨#[48, 49, 50, 51, 52, 53, 54, 55, 56, 57, 97, 98, 99, 100, 101, 102]⟩) := by simp
  exact four_lower _ z h0 h1 W' (by rw [hB.cell (lt_of_cell hc)]; exact hc)
theorem digs_upper (W : World) : Digs ⟨W.heap.size, 0, none⟩ (W.alloc (.cells #[.string ⟨#[48, 49, 50, 51, 52, 53, 54, 55, 56, 57, 65, 66, 67, 68, 69, 70]⟩] 9)) := by
  intro W' hB z h0 h1
  have hc : (W.alloc (.cells #[.string ⟨#[48, 49, 50, 51, 52, 53, 54, 55, 56, 57, 65, 66, 67, 68, 69, 70]⟩] 9)).cell? ⟨W.heap.size, 0, none⟩ = some (.string ⟨#[48, 49, 50, 51, 52, 53, 54, 55, 56, 57, 65, 66, 67, 68, 69, 70]⟩) := by simp
  exact four_upper _ z h0 h1 W' (by rw [hB.cell (lt_of_cell hc)]; exact hc)

theorem quoted_one (s : ByteArray) : ((⟨#[34]⟩ : ByteArray) ++ s ++ ⟨#[34]⟩).data.toList = 34 :: (s.data.toList ++ [34]) := by
  rw [append_list, append_list]; rfl
theorem quoted_two (s t : ByteArray) : ((⟨#[34]⟩ : ByteArray) ++ s ++ t ++ ⟨#[34]⟩).data.toList = 34 :: (s.data.toList ++ (t.data.toList ++ [34])) := by
  rw [append_list, append_list, append_list]
  show ([34] ++ s.data.toList ++ t.data.toList) ++ [34] = _
  simp
theorem quoted_one_size (s : ByteArray) (h : s.size = 6) : ((⟨#[34]⟩ : ByteArray) ++ s ++ ⟨#[34]⟩).size ≤ 100 := by
  rw [ByteArray.size_append, ByteArray.size_append, h]
  decide
theorem quoted_two_size (s t : ByteArray) (h : s.size = 6) (h' : t.size = 6) : ((⟨#[34]⟩ : ByteArray) ++ s ++ t ++ ⟨#[34]⟩).size ≤ 100 := by
  rw [ByteArray.size_append, ByteArray.size_append, ByteArray.size_append, h, h']
  decide
theorem enc_same (z : Int) (c : Nat) (h : z = (c : Int)) : ((⟨(Lib.encodeRune (c : Int)).toArray⟩ : ByteArray).toList == (Utf8.encode z).toList) = true := by
  rw [h, encode_enc1]
  show ((enc1 c).toList == (enc1 c).toList) = true
  simp

theorem small_add2 (a b : ByteArray) (m n : Nat) (ha : a.size ≤ m) (hb : b.size ≤ n) : (a ++ b).size ≤ m + n := by
  rw [ByteArray.size_append]; omega

set_option maxRecDepth 100000 in
set_option maxHeartbeats 8000000 in
theorem TextUnits_walk (a : Int) (wa : Lit.wf (.int .u16 a)) (b : Int) (wb : Lit.wf (.int .u16 b)) (great : Bool) (w : World) (hE : Env w) :
    Calls Tryd.prog 7 #[.int .u16 a, .int .u16 b, .bool great] w fun e w' => e = .returned (.bool true) ∧ Below w.heap.size w w' := by
  have hab : 0 ≤ a ∧ a < 65536 ∧ 0 ≤ b ∧ b < 65536 := by
    simp only [Lit.wf, Bool.and_eq_true, decide_eq_true_eq] at wa wb
    have h1 : IntKind.u16.min = 0 := rfl
    have h2 : IntKind.u16.max = 65535 := rfl
    omega
  obtain ⟨a0, a1, b0, b1⟩ := hab
  clear wa wb
  have hmf : ∀ (fn : Fn) (first cap : Array Value) (w : World), (Instr.makeFunc fn first cap).run Tryd.prog w = .ok (.func fn first cap) w := fun _ _ _ _ => rfl
  have hcv := conv_any
  cases great with
  | false =>
    go_enter Tryd.func7, Tryd.ntmps7
    go_wp2_with fail
    refine (awake_true _ hE).mono ?_
    rintro e w1 ⟨rfl, hB1⟩
    go_wp2_with fail
    have hD := digs_lower w1
    have hB2 : Below w.heap.size w (w1.alloc (.cells #[.string ⟨#[48, 49, 50, 51, 52, 53, 54, 55, 56, 57, 97, 98, 99, 100, 101, 102]⟩] 9)) := hB1.alloc hB1.size _
    generalize w1.alloc (.cells #[.string ⟨#[48, 49, 50, 51, 52, 53, 54, 55, 56, 57, 97, 98, 99, 100, 101, 102]⟩] 9) = W2 at *
    refine (hD _ (Below.refl _ _) a a0 a1).mono ?_
    rintro e w3 ⟨⟨s3, rfl, hs3⟩, hb3⟩
    have hB3 := hB2.trans (hb3.mono hB2.size)
    have z3 := hs3.size
    have z3' : s3.size ≤ 6 := by omega
    have y3 := small_add2 ⟨#[34]⟩ s3 1 6 (by decide) z3'
    have q3 := quoted_one_size s3 z3
    have l3 := quoted_one s3
    have HS3 : Hid (Four s3 a.toNat) := hs3
    have HQ3 : Hid ((((⟨#[34]⟩ : ByteArray) ++ s3 ++ ⟨#[34]⟩).size ≤ 100) ∧ ((⟨#[34]⟩ : ByteArray) ++ s3 ++ ⟨#[34]⟩).data.toList = 34 :: (s3.data.toList ++ [34])) := ⟨q3, l3⟩
    clear hs3 z3 q3 l3
    go_wp2_with fail
    refine (Unquote_any _ (by have := HQ3.out.1; omega) _ (hE.below hB3)).mono ?_
    rintro e w4 ⟨h4, hb4⟩
    rw [HQ3.out.2] at h4
    have hB4 := hB3.trans (hb4.mono hB3.size)
    by_cases hp : a < 55296 ∨ 57343 < a
    · have hu := units_plain HS3.out (by omega) [34] (by omega)
      rw [read_one HS3.out (by omega) [34] _ _ hu (HS3.out.drop [34])] at h4
      simp only [Tells] at h4
      subst h4
      have hen := enc_same a a.toNat (by omega)
      generalize (⟨(Lib.encodeRune (a.toNat : Int)).toArray⟩ : ByteArray) = X at *
      clear hu
      rcases hp with hp | hp
      · go_wp2
        go_ret
        exact ⟨rfl, hB4.alloc hB4.size _⟩
      · have hq : ¬ a < 55296 := by omega
        go_wp2
        go_ret
        exact ⟨rfl, hB4.alloc hB4.size _⟩
    · have p1 : ¬ a < 55296 := by omega
      have p2 : ¬ 57343 < a := by omega
      have hu : readL (34 :: (s3.data.toList ++ [34])) = none := by
        by_cases h : a < 56320
        · exact read_none HS3.out _ (units_halfL HS3.out [34] (by omega) (by omega) rfl)
        · exact read_none HS3.out _ (units_secondL HS3.out (by omega) [34] (by omega) (by omega))
      rw [hu] at h4
      obtain ⟨v, rfl, hv⟩ := h4
      have HV : Hid (Bad w4 v) := hv
      have HD : Hid (Digs ⟨w1.heap.size, 0, none⟩ W2) := hD
      have hbl : Below W2.heap.size W2 w4 := hb3.trans (hb4.mono hb3.size)
      clear hv hu hp hD
      have r1 : 0 ≤ 55296 + a % 1024 := by omega
      have r2 : 55296 + a % 1024 < 56320 := by omega
      have r3 : 0 ≤ 56320 + b % 1024 := by omega
      have r4 : 56320 + b % 1024 < 57344 := by omega
      obtain ⟨h, hh⟩ : ∃ h : Int, 55296 + a % 1024 = h := ⟨_, rfl⟩
      obtain ⟨l, hl⟩ : ∃ l : Int, 56320 + b % 1024 = l := ⟨_, rfl⟩
      rw [hh] at r1 r2
      rw [hl] at r3 r4
      have r5 : 55296 ≤ h := by omega
      have r6 : 56320 ≤ l := by omega
      go_wp2_with fail
      refine (HD.out _ hbl h r1 (by omega)).mono ?_
      rintro e w5 ⟨⟨s5, rfl, hs5⟩, hb5⟩
      have hB5 := hB4.trans (hb5.mono hB4.size)
      have hbl5 := hbl.trans (hb5.mono hbl.size)
      have y5 : s5.size ≤ 6 := by have := hs5.size; omega
      have x5 := small_add2 ⟨#[34]⟩ s5 1 6 (by decide) y5
      have HS5 : Hid (Four s5 h.toNat) := hs5
      clear hs5
      go_wp2_with fail
      refine (HD.out _ hbl5 l r3 (by omega)).mono ?_
      rintro e w6 ⟨⟨s6, rfl, hs6⟩, hb6⟩
      have hB6 := hB5.trans (hb6.mono hB5.size)
      have hbl6 := hbl5.trans (hb6.mono hbl5.size)
      have y6 : s6.size ≤ 6 := by have := hs6.size; omega
      have x6 := small_add2 _ s6 _ 6 x5 y6
      have HS6 : Hid (Four s6 l.toNat) := hs6
      have HR6 : Hid (readL (((⟨#[34]⟩ : ByteArray) ++ s5 ++ s6 ++ ⟨#[34]⟩).data.toList) = some (Lib.encodeRune ((65536 + (h.toNat - 55296) * 1024 + (l.toNat - 56320) : Nat) : Int), 14) ∧ ((⟨#[34]⟩ : ByteArray) ++ s5 ++ s6 ++ ⟨#[34]⟩).size ≤ 100) := by
        refine ⟨?_, quoted_two_size s5 s6 HS5.out.size hs6.size⟩
        rw [quoted_two, read_one HS5.out (by omega) _ _ _ (units_pair HS5.out hs6 [34] (by omega) (by omega) (by omega) (by omega)) (pair_drop HS5.out hs6 [34])]
      clear hs6
      go_wp2_with fail
      refine (Unquote_any _ (by have := HR6.out.2; omega) _ (hE.below hB6)).mono ?_
      rintro e w7 ⟨h7, hb7⟩
      rw [HR6.out.1] at h7
      simp only [Tells] at h7
      subst h7
      have hB7 := hB6.trans (hb7.mono hB6.size)
      have hbl7 := hbl6.trans (hb7.mono hbl6.size)
      have hv7 := ((HV.out.below hb5).below hb6).below hb7
      have HV7 : Hid (Bad w7 v) := hv7
      clear hv7
      obtain ⟨X, hX⟩ : ∃ X : ByteArray, (⟨(Lib.encodeRune ((65536 + (h.toNat - 55296) * 1024 + (l.toNat - 56320) : Nat) : Int)).toArray⟩ : ByteArray) = X := ⟨_, rfl⟩
      have hen := fun z hz => enc_same z (65536 + (h.toNat - 55296) * 1024 + (l.toNat - 56320)) hz
      rw [hX] at hen ⊢
      have HEN := (show Hid _ from hen)
      clear hX hen
      go_wp2_with fail
      refine (HD.out _ hbl7 l r3 (by omega)).mono ?_
      rintro e w8 ⟨⟨s8, rfl, hs8⟩, hb8⟩
      have hB8 := hB7.trans (hb8.mono hB7.size)
      have hbl8 := hbl7.trans (hb8.mono hbl7.size)
      have y8 : s8.size ≤ 6 := by have := hs8.size; omega
      have x8 := small_add2 ⟨#[34]⟩ s8 1 6 (by decide) y8
      have HS8 : Hid (Four s8 l.toNat) := hs8
      clear hs8
      go_wp2_with fail
      refine (HD.out _ hbl8 h r1 (by omega)).mono ?_
      rintro e w9 ⟨⟨s9, rfl, hs9⟩, hb9⟩
      have hB9 := hB8.trans (hb9.mono hB8.size)
      have y9 : s9.size ≤ 6 := by have := hs9.size; omega
      have x9 := small_add2 _ s9 _ 6 x8 y9
      have HR9 : Hid (readL (((⟨#[34]⟩ : ByteArray) ++ s8 ++ s9 ++ ⟨#[34]⟩).data.toList) = none ∧ ((⟨#[34]⟩ : ByteArray) ++ s8 ++ s9 ++ ⟨#[34]⟩).size ≤ 100) := by
        refine ⟨?_, quoted_two_size s8 s9 HS8.out.size hs9.size⟩
        rw [quoted_two]
        exact read_none HS8.out _ (units_secondL HS8.out (by omega) _ (by omega) (by omega))
      clear hs9
      go_wp2_with fail
      refine (Unquote_any _ (by have := HR9.out.2; omega) _ (hE.below hB9)).mono ?_
      rintro e w10 ⟨h10, hb10⟩
      rw [HR9.out.1] at h10
      obtain ⟨v2, rfl, hv2⟩ := h10
      have hB10 := hB9.trans (hb10.mono hB9.size)
      have hv10 := ((HV7.out.below hb8).below hb9).below hb10
      have HV2 : Hid (Bad w10 v2) := hv2
      clear hv2
      go_wp2_with fail
      refine (hv10.code (hE.below hB10).handle).mono ?_
      rintro e w11 ⟨rfl, hb11⟩
      have hB11 := hB10.trans (hb11.mono hB10.size)
      have hen := HEN.out (65536 + (h - 55296) * 1024 + (l - 56320)) (by omega)
      have HV3 : Hid (Bad (w11.alloc (.cells #[.int .i32 (65536 + (h - 55296) * 1024 + (l - 56320))] 21)) v2) := (HV2.out.below hb11).below ((Below.refl _ _).alloc (Nat.le_refl _) _)
      go_wp2_with fail
      have hB12 := hB11.alloc hB11.size (.cells #[.int .i32 (65536 + (h - 55296) * 1024 + (l - 56320))] 21)
      refine (HV3.out.code (hE.below hB12).handle).mono ?_
      rintro e w12 ⟨rfl, hb12⟩
      go_wp2
      go_ret
      exact ⟨rfl, hB12.trans (hb12.mono hB12.size)⟩
  | true =>
    go_enter Tryd.func7, Tryd.ntmps7
    go_wp2_with fail
    refine (awake_true _ hE).mono ?_
    rintro e w1 ⟨rfl, hB1⟩
    go_wp2_with fail
    have hD := digs_upper w1
    have hB2 : Below w.heap.size w (w1.alloc (.cells #[.string ⟨#[48, 49, 50, 51, 52, 53, 54, 55, 56, 57, 65, 66, 67, 68, 69, 70]⟩] 9)) := hB1.alloc hB1.size _
    generalize w1.alloc (.cells #[.string ⟨#[48, 49, 50, 51, 52, 53, 54, 55, 56, 57, 65, 66, 67, 68, 69, 70]⟩] 9) = W2 at *
    refine (hD _ (Below.refl _ _) a a0 a1).mono ?_
    rintro e w3 ⟨⟨s3, rfl, hs3⟩, hb3⟩
    have hB3 := hB2.trans (hb3.mono hB2.size)
    have z3 := hs3.size
    have z3' : s3.size ≤ 6 := by omega
    have y3 := small_add2 ⟨#[34]⟩ s3 1 6 (by decide) z3'
    have q3 := quoted_one_size s3 z3
    have l3 := quoted_one s3
    have HS3 : Hid (Four s3 a.toNat) := hs3
    have HQ3 : Hid ((((⟨#[34]⟩ : ByteArray) ++ s3 ++ ⟨#[34]⟩).size ≤ 100) ∧ ((⟨#[34]⟩ : ByteArray) ++ s3 ++ ⟨#[34]⟩).data.toList = 34 :: (s3.data.toList ++ [34])) := ⟨q3, l3⟩
    clear hs3 z3 q3 l3
    go_wp2_with fail
    refine (Unquote_any _ (by have := HQ3.out.1; omega) _ (hE.below hB3)).mono ?_
    rintro e w4 ⟨h4, hb4⟩
    rw [HQ3.out.2] at h4
    have hB4 := hB3.trans (hb4.mono hB3.size)
    by_cases hp : a < 55296 ∨ 57343 < a
    · have hu := units_plain HS3.out (by omega) [34] (by omega)
      rw [read_one HS3.out (by omega) [34] _ _ hu (HS3.out.drop [34])] at h4
      simp only [Tells] at h4
      subst h4
      have hen := enc_same a a.toNat (by omega)
      generalize (⟨(Lib.encodeRune (a.toNat : Int)).toArray⟩ : ByteArray) = X at *
      clear hu
      rcases hp with hp | hp
      · go_wp2
        go_ret
        exact ⟨rfl, hB4.alloc hB4.size _⟩
      · have hq : ¬ a < 55296 := by omega
        go_wp2
        go_ret
        exact ⟨rfl, hB4.alloc hB4.size _⟩
    · have p1 : ¬ a < 55296 := by omega
      have p2 : ¬ 57343 < a := by omega
      have hu : readL (34 :: (s3.data.toList ++ [34])) = none := by
        by_cases h : a < 56320
        · exact read_none HS3.out _ (units_halfL HS3.out [34] (by omega) (by omega) rfl)
        · exact read_none HS3.out _ (units_secondL HS3.out (by omega) [34] (by omega) (by omega))
      rw [hu] at h4
      obtain ⟨v, rfl, hv⟩ := h4
      have HV : Hid (Bad w4 v) := hv
      have HD : Hid (Digs ⟨w1.heap.size, 0, none⟩ W2) := hD
      have hbl : Below W2.heap.size W2 w4 := hb3.trans (hb4.mono hb3.size)
      clear hv hu hp hD
      have r1 : 0 ≤ 55296 + a % 1024 := by omega
      have r2 : 55296 + a % 1024 < 56320 := by omega
      have r3 : 0 ≤ 56320 + b % 1024 := by omega
      have r4 : 56320 + b % 1024 < 57344 := by omega
      obtain ⟨h, hh⟩ : ∃ h : Int, 55296 + a % 1024 = h := ⟨_, rfl⟩
      obtain ⟨l, hl⟩ : ∃ l : Int, 56320 + b % 1024 = l := ⟨_, rfl⟩
      rw [hh] at r1 r2
      rw [hl] at r3 r4
      have r5 : 55296 ≤ h := by omega
      have r6 : 56320 ≤ l := by omega
      go_wp2_with fail
      refine (HD.out _ hbl h r1 (by omega)).mono ?_
      rintro e w5 ⟨⟨s5, rfl, hs5⟩, hb5⟩
      have hB5 := hB4.trans (hb5.mono hB4.size)
      have hbl5 := hbl.trans (hb5.mono hbl.size)
      have y5 : s5.size ≤ 6 := by have := hs5.size; omega
      have x5 := small_add2 ⟨#[34]⟩ s5 1 6 (by decide) y5
      have HS5 : Hid (Four s5 h.toNat) := hs5
      clear hs5
      go_wp2_with fail
      refine (HD.out _ hbl5 l r3 (by omega)).mono ?_
      rintro e w6 ⟨⟨s6, rfl, hs6⟩, hb6⟩
      have hB6 := hB5.trans (hb6.mono hB5.size)
      have hbl6 := hbl5.trans (hb6.mono hbl5.size)
      have y6 : s6.size ≤ 6 := by have := hs6.size; omega
      have x6 := small_add2 _ s6 _ 6 x5 y6
      have HS6 : Hid (Four s6 l.toNat) := hs6
      have HR6 : Hid (readL (((⟨#[34]⟩ : ByteArray) ++ s5 ++ s6 ++ ⟨#[34]⟩).data.toList) = some (Lib.encodeRune ((65536 + (h.toNat - 55296) * 1024 + (l.toNat - 56320) : Nat) : Int), 14) ∧ ((⟨#[34]⟩ : ByteArray) ++ s5 ++ s6 ++ ⟨#[34]⟩).size ≤ 100) := by
        refine ⟨?_, quoted_two_size s5 s6 HS5.out.size hs6.size⟩
        rw [quoted_two, read_one HS5.out (by omega) _ _ _ (units_pair HS5.out hs6 [34] (by omega) (by omega) (by omega) (by omega)) (pair_drop HS5.out hs6 [34])]
      clear hs6
      go_wp2_with fail
      refine (Unquote_any _ (by have := HR6.out.2; omega) _ (hE.below hB6)).mono ?_
      rintro e w7 ⟨h7, hb7⟩
      rw [HR6.out.1] at h7
      simp only [Tells] at h7
      subst h7
      have hB7 := hB6.trans (hb7.mono hB6.size)
      have hbl7 := hbl6.trans (hb7.mono hbl6.size)
      have hv7 := ((HV.out.below hb5).below hb6).below hb7
      have HV7 : Hid (Bad w7 v) := hv7
      clear hv7
      obtain ⟨X, hX⟩ : ∃ X : ByteArray, (⟨(Lib.encodeRune ((65536 + (h.toNat - 55296) * 1024 + (l.toNat - 56320) : Nat) : Int)).toArray⟩ : ByteArray) = X := ⟨_, rfl⟩
      have hen := fun z hz => enc_same z (65536 + (h.toNat - 55296) * 1024 + (l.toNat - 56320)) hz
      rw [hX] at hen ⊢
      have HEN := (show Hid _ from hen)
      clear hX hen
      go_wp2_with fail
      refine (HD.out _ hbl7 l r3 (by omega)).mono ?_
      rintro e w8 ⟨⟨s8, rfl, hs8⟩, hb8⟩
      have hB8 := hB7.trans (hb8.mono hB7.size)
      have hbl8 := hbl7.trans (hb8.mono hbl7.size)
      have y8 : s8.size ≤ 6 := by have := hs8.size; omega
      have x8 := small_add2 ⟨#[34]⟩ s8 1 6 (by decide) y8
      have HS8 : Hid (Four s8 l.toNat) := hs8
      clear hs8
      go_wp2_with fail
      refine (HD.out _ hbl8 h r1 (by omega)).mono ?_
      rintro e w9 ⟨⟨s9, rfl, hs9⟩, hb9⟩
      have hB9 := hB8.trans (hb9.mono hB8.size)
      have y9 : s9.size ≤ 6 := by have := hs9.size; omega
      have x9 := small_add2 _ s9 _ 6 x8 y9
      have HR9 : Hid (readL (((⟨#[34]⟩ : ByteArray) ++ s8 ++ s9 ++ ⟨#[34]⟩).data.toList) = none ∧ ((⟨#[34]⟩ : ByteArray) ++ s8 ++ s9 ++ ⟨#[34]⟩).size ≤ 100) := by
        refine ⟨?_, quoted_two_size s8 s9 HS8.out.size hs9.size⟩
        rw [quoted_two]
        exact read_none HS8.out _ (units_secondL HS8.out (by omega) _ (by omega) (by omega))
      clear hs9
      go_wp2_with fail
      refine (Unquote_any _ (by have := HR9.out.2; omega) _ (hE.below hB9)).mono ?_
      rintro e w10 ⟨h10, hb10⟩
      rw [HR9.out.1] at h10
      obtain ⟨v2, rfl, hv2⟩ := h10
      have hB10 := hB9.trans (hb10.mono hB9.size)
      have hv10 := ((HV7.out.below hb8).below hb9).below hb10
      have HV2 : Hid (Bad w10 v2) := hv2
      clear hv2
      go_wp2_with fail
      refine (hv10.code (hE.below hB10).handle).mono ?_
      rintro e w11 ⟨rfl, hb11⟩
      have hB11 := hB10.trans (hb11.mono hB10.size)
      have hen := HEN.out (65536 + (h - 55296) * 1024 + (l - 56320)) (by omega)
      have HV3 : Hid (Bad (w11.alloc (.cells #[.int .i32 (65536 + (h - 55296) * 1024 + (l - 56320))] 21)) v2) := (HV2.out.below hb11).below ((Below.refl _ _).alloc (Nat.le_refl _) _)
      go_wp2_with fail
      have hB12 := hB11.alloc hB11.size (.cells #[.int .i32 (65536 + (h - 55296) * 1024 + (l - 56320))] 21)
      refine (HV3.out.code (hE.below hB12).handle).mono ?_
      rintro e w12 ⟨rfl, hb12⟩
      go_wp2
      go_ret
      exact ⟨rfl, hB12.trans (hb12.mono hB12.size)⟩

namespace TextUnits
open Go.ChangeShapes Go.WideShapes Go.ChangeAt
open Go.ChangeMaps (open_string shut_string)
theorem reads (os : Os) {H : Type} (enc : TypeId × Value → H) : ∃ places, DataW.whole enc Tryd.prog ((laidOn (World.holding Tryd.prog os ⟨#[], #[], []⟩)).forCall (fun _ _ => 0) ⟨#[], #[.int .u16 0, .int .u16 0, .bool false], []⟩).memory Tryd.f7.params.toList Rows.textUnitsSpec.vars false #[((.int .u16 0) : Value), .int .u16 0, .bool false].toList 8 = some ([.lit (.int .u16 0), .lit (.int .u16 0), .lit (.bool false)], [], places) :=
  ⟨[], by kernel_rfl⟩

set_option maxRecDepth 100000 in
theorem contract (H : Type) (enc : TypeId × Value → H) (W : World) (base : Nat) (args : Array Value) (ds gs : List (DataW H)) (before : List MemPlace)
    (hval : ∀ (j : Nat) t v, Tryd.f7.params[j]? = some t → args[j]? = some v → Value.okWide Tryd.prog W .any base t v)
    (hW : DataW.Whole enc Tryd.prog Tryd.f7.params.toList Rows.textUnitsSpec.vars false W args.toList ds gs before) (hL : laidMetH Tryd.prog Rows.textUnitsRow.laid W) :
    Calls Tryd.prog 7 args W fun e W' => ∃ v, e = .returned v ∧ Rows.textUnitsSpec.post enc Tryd.prog Tryd.f7 false true false false W args v W' := by
  have hW' := hW
  obtain ⟨p, q, hA0, hV, rfl, hfz, hnd⟩ := hW
  have hA : DataW.TrodAll enc Tryd.prog W 0 (fun _ => true) true Tryd.f7.params.toList args.toList ds p := hA0
  rw [Tryd.params7] at hA hval
  obtain ⟨v0, v1, v2, d0, d1, d2, p0, p1, p2, rfl, rfl, rfl, h0, h1, h2⟩ := trodAll_three hA
  obtain ⟨rfl, rfl⟩ := trodVars_none hV
  obtain ⟨c0, rfl, rfl, rfl, wc0⟩ := open_int Tryd.underlying25 (hval 0 25 v0 rfl rfl) h0
  obtain ⟨c1, rfl, rfl, rfl, wc1⟩ := open_int Tryd.underlying25 (hval 1 25 v1 rfl rfl) h1
  obtain ⟨c2, rfl, rfl, rfl⟩ := open_bool Tryd.underlying4 (hval 2 4 v2 rfl rfl) h2
  have hg := env_of_laid hL
  refine (TextUnits_walk c0 wc0 c1 wc1 c2 W hg).mono fun e W' ⟨he, hb⟩ => ?_
  subst he
  refine ⟨_, rfl, _, _, _, [], [], [], hW', ?_, ?_, ?_, hb.frame _, fun h => by cases h⟩
  · exact trodAll_mk1 (shut_bool Tryd.underlying4 _)
  · exact trodAll_mk3 (shut_int Tryd.underlying25 wc0) (shut_int Tryd.underlying25 wc1) (shut_bool Tryd.underlying4 c2)
  · rfl

set_option maxRecDepth 100000 in
theorem lifted (os : Os) (started : os.Started) (H : Type) (enc : TypeId × Value → H) (F : Stop.Interp) :
    ReturnsInHanded {} Tryd.checked os 7 .any ((OpenSpec.ofChange Rows.textUnitsSpec).preRow enc Tryd.prog Tryd.f7 Rows.textUnitsRow.domain false Rows.textUnitsRow.laid) (((OpenSpec.ofChange Rows.textUnitsSpec).at F).post enc Tryd.prog Tryd.f7 false true false false) := by
  obtain ⟨places, hx⟩ := reads os enc
  refine returnsInHanded_of_row (C := Tryd.checked) (s := (OpenSpec.ofChange Rows.textUnitsSpec)) own started (by kernel_rfl) Tryd.func7
    (witness_row_at (enc := enc) (C := Tryd.checked) false (laidOn (World.holding Tryd.prog os ⟨#[], #[], []⟩)) #[.int .u16 0, .int .u16 0, .bool false] rfl (by kernel_rfl) (by kernel_rfl) (by kernel_rfl)
      (OpenSpec.preRow_of_cond 8 hx (by kernel_rfl) (fun k hk => by cases hk) (by kernel_rfl) (laidWorld_met os _))) ?_
  intro W base args ds gs before hval hW _ _ _ hL _ _
  exact contract H enc W base args ds gs before hval hW hL

theorem said : Rows.TextUnitsSaid :=
  OpenClaim.holds_of_cond 7 Tryd.f7 rfl rfl rfl rfl rfl rfl rfl ⟨rfl, rfl, rfl, rfl, rfl⟩ rfl rfl rfl rfl rfl (by kernel_rfl) Tryd.func7 (by kernel_rfl)
    (of_decide_eq_true (by kernel_rfl)) (by unfold Func.isWrapper; first | (rw [if_pos (by decide +kernel)]; kernel_rfl) | (rw [if_neg (by decide +kernel)]; exact ⟨rfl, rfl⟩))
    (fun os started H enc _ F => by rw [OpenClaim.pre_eq_preRow]; exact lifted os started H enc F)

theorem plain (f : FuncId) (fn : Func) (hf : Tryd.pinned.checked.prog.funcNamed "roundelay/roundelaylaw02.TextUnits" = some f) (hfn : Tryd.pinned.checked.prog.funcs[f]? = some fn) :
    true = Tryd.pinned.checked.prog.looks [] ∧ ∀ (j : Nat) t, fn.params[j]? = some t → Tryd.pinned.checked.prog.wantsStandIn t = false := by
  obtain rfl : f = 7 := Option.some.inj ((show Tryd.prog.funcNamed "roundelay/roundelaylaw02.TextUnits" = some 7 by kernel_rfl).symm.trans hf) |>.symm
  obtain rfl : fn = Tryd.f7 := (Option.some.inj (Tryd.func7.symm.trans hfn)).symm
  refine ⟨by kernel_rfl, fun j t ht => ?_⟩
  rw [Tryd.params7] at ht
  have hm := Array.mem_of_getElem? ht
  simp only [List.mem_toArray, List.mem_cons, List.not_mem_nil, or_false] at hm
  rcases hm with rfl | rfl | rfl
  · exact (show Tryd.prog.wantsStandIn 25 = false by kernel_rfl)
  · exact (show Tryd.prog.wantsStandIn 25 = false by kernel_rfl)
  · exact (show Tryd.prog.wantsStandIn 4 = false by kernel_rfl)

theorem card : Rows.TextUnitsCardSaid :=
  Claim7.holds_tied_plain_at .later [] _ _ _ _ said (fun _ h => by cases h) (by kernel_rfl) (fun _ h => by cases h) textUnits_row_tie rfl ⟨rfl, rfl⟩ (by kernel_rfl) rfl plain (by kernel_rfl)
end TextUnits
theorem textUnits_holds : Rows.TextUnitsCardSaid := TextUnits.card
#print axioms textUnits_holds
end Go.Proofs.YtjlfmpibnlihhaaDoor
