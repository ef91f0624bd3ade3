/-
  JsonDeep's walk: values may stand just so deep in one another. Conditions: as stated.
-/
import Derived.Test.YtnkoblhdbccbeaaGreatDoorJAw
import Derived.Test.YtnkoblhdbccbeaaGreatDoorJRow
import Derived.Test.YtnkoblhdbccbeaaGreatDoorVDepth
namespace Go.Proofs.YtnkoblhdbccbeaaGreatDoor
open Go.RowKit Go.Extern.Stop Go.Stop Go.Extern

theorem app_list (a b : ByteArray) : (a ++ b).data.toList = a.data.toList ++ b.data.toList := by simp
theorem app_size (a b : ByteArray) : (a ++ b).size = a.size + b.size := by simp

def opB (ob : Bool) : ByteArray := if ob = true then ⟨#[123, 34, 97, 34, 58]⟩ else ⟨#[91]⟩
def enB (ob : Bool) : ByteArray := if ob = true then ⟨#[125]⟩ else ⟨#[93]⟩
def deepB (ob : Bool) : Nat → ByteArray
  | 0 => ⟨#[55]⟩
  | n + 1 => opB ob ++ deepB ob n ++ enB ob
def deepL (ob : Bool) : Nat → List UInt8
  | 0 => [55]
  | n + 1 => (opB ob).data.toList ++ deepL ob n ++ (enB ob).data.toList
def deepV (ob : Bool) : Nat → V
  | 0 => intV 7
  | n + 1 => if ob = true then objV [(⟨#[97]⟩, deepV ob n)] else listV [deepV ob n]
theorem deepB_list (ob : Bool) : ∀ n, (deepB ob n).data.toList = deepL ob n
  | 0 => rfl
  | n + 1 => by
    show (opB ob ++ deepB ob n ++ enB ob).data.toList = _
    rw [app_list, app_list, deepB_list ob n]; rfl
theorem deepB_size (ob : Bool) : ∀ n, (deepB ob n).size ≤ 1 + 6 * n
  | 0 => Nat.le_refl _
  | n + 1 => by
    show (opB ob ++ deepB ob n ++ enB ob).size ≤ _
    have ih := deepB_size ob n
    rw [app_size, app_size]
    have h1 : (opB ob).size + (enB ob).size ≤ 6 := by cases ob <;> decide
    omega
set_option maxRecDepth 100000 in
theorem deep_ok (ob : Bool) : ∀ m, m < 16 → parseP (deepL ob m) = .ok (deepV ob m)
  | 0, _ => by cases ob <;> kernel_rfl
  | 1, _ => by cases ob <;> kernel_rfl
  | 2, _ => by cases ob <;> kernel_rfl
  | 3, _ => by cases ob <;> kernel_rfl
  | 4, _ => by cases ob <;> kernel_rfl
  | 5, _ => by cases ob <;> kernel_rfl
  | 6, _ => by cases ob <;> kernel_rfl
  | 7, _ => by cases ob <;> kernel_rfl
  | 8, _ => by cases ob <;> kernel_rfl
  | 9, _ => by cases ob <;> kernel_rfl
  | 10, _ => by cases ob <;> kernel_rfl
  | 11, _ => by cases ob <;> kernel_rfl
  | 12, _ => by cases ob <;> kernel_rfl
  | 13, _ => by cases ob <;> kernel_rfl
  | 14, _ => by cases ob <;> kernel_rfl
  | 15, _ => by cases ob <;> kernel_rfl
  | m + 16, h => by omega
set_option maxRecDepth 100000 in
theorem deep_no (ob : Bool) : ∀ m, m < 8 → parseP (deepL ob (m + 16)) = .error 2
  | 0, _ => by cases ob <;> kernel_rfl
  | 1, _ => by cases ob <;> kernel_rfl
  | 2, _ => by cases ob <;> kernel_rfl
  | 3, _ => by cases ob <;> kernel_rfl
  | 4, _ => by cases ob <;> kernel_rfl
  | 5, _ => by cases ob <;> kernel_rfl
  | 6, _ => by cases ob <;> kernel_rfl
  | 7, _ => by cases ob <;> kernel_rfl
  | m + 8, h => by omega
theorem deep_depth (ob : Bool) : ∀ m, m < 16 → depthV 17 (deepV ob m) = (m : Int) + 1
  | 0, _ => by cases ob <;> kernel_rfl
  | 1, _ => by cases ob <;> kernel_rfl
  | 2, _ => by cases ob <;> kernel_rfl
  | 3, _ => by cases ob <;> kernel_rfl
  | 4, _ => by cases ob <;> kernel_rfl
  | 5, _ => by cases ob <;> kernel_rfl
  | 6, _ => by cases ob <;> kernel_rfl
  | 7, _ => by cases ob <;> kernel_rfl
  | 8, _ => by cases ob <;> kernel_rfl
  | 9, _ => by cases ob <;> kernel_rfl
  | 10, _ => by cases ob <;> kernel_rfl
  | 11, _ => by cases ob <;> kernel_rfl
  | 12, _ => by cases ob <;> kernel_rfl
  | 13, _ => by cases ob <;> kernel_rfl
  | 14, _ => by cases ob <;> kernel_rfl
  | 15, _ => by cases ob <;> kernel_rfl
  | m + 16, h => by omega

set_option maxRecDepth 100000 in
set_option maxHeartbeats 4000000 in
theorem JsonDeep_walk (c : Int) (hc : (Lit.int .u8 c).wf = true) (ob : Bool) (W : World) (hE : JEnv W) :
    Calls Tryz.prog 7 #[.int .u8 c, .bool ob] W fun e w' => e = .returned (.bool true) ∧ Below W.heap.size W w' := by
  have hc0 : 0 ≤ c ∧ c ≤ 255 := by
    have h1 : IntKind.u8.min = 0 := rfl
    have h2 : IntKind.u8.max = 255 := rfl
    simp only [Lit.wf, Bool.and_eq_true, decide_eq_true_eq] at hc
    omega
  obtain ⟨z0, z1⟩ := hc0
  obtain ⟨m, hm⟩ : ∃ m : Nat, c % 24 = (m : Int) := ⟨(c % 24).toNat, by omega⟩
  have hm24 : m < 24 := by omega
  have haw := awake_true W hE
  have HE := (show Hid _ from hE)
  clear hc hE
  cases ob
  all_goals
    go_enter Tryz.func7, Tryz.ntmps7
    go_wp2_with fail
    refine haw.mono ?_
    rintro e w1 ⟨rfl, hb1⟩
    have H1 := (show Hid _ from hb1)
    clear haw hb1
    go_wp2_with fail
  · go_loopg [8, 9] m (fun gg s i wr => ∃ (j : Nat) (B : ByteArray), j ≤ m ∧ m - j ≤ gg ∧ i = .int .i64 j ∧ s = .string B ∧ Aside (B = deepB false j) ∧ Aside (Below W.heap.size W wr))
    case atStart => exact ⟨0, _, Nat.zero_le _, by omega, rfl, rfl, rfl, H1.out⟩
    case round =>
      obtain ⟨j, B, hj, hgg, rfl, rfl, hB, hW⟩ := hrel
      have hBz : B.size ≤ 200 := by rw [hB.out]; have := deepB_size false j; omega
      by_cases hlt : j < m
      · have zk : (j : Int) < (m : Int) := by omega
        go_wp2_with fail
        go_roundg (m - (j + 1))
        case measure => omega
        case rel => exact ⟨j + 1, _, by omega, by omega, by go_num, rfl, by rw [hB.out]; rfl, hW.out⟩
      · have zk : ¬ (j : Int) < (m : Int) := by omega
        obtain rfl : j = m := by omega
        have hps := Parse_any B wr (HE.out.below hW.out)
        rw [hB.out, deepB_list, ← hB.out] at hps
        clear hBz
        by_cases h16 : 16 ≤ j
        · have z16 : (16 : Int) ≤ (j : Int) := by omega
          have z16' : ¬ (j : Int) < 16 := by omega
          have hpe : parseP (deepL false j) = .error 2 := by
            have := deep_no false (j - 16) (by omega)
            rwa [show j - 16 + 16 = j by omega] at this
          rw [hpe] at hps
          go_wp2_with fail
          refine hps.mono ?_
          intro e w2 h2
          obtain ⟨u2, z2, rfl, hx2, hb2⟩ := h2.fault
          obtain ⟨O2, hO2⟩ : ∃ O, O = Obj.cells #[.int .i64 0, .int .i64 0, .string ⟨#[]⟩, .slice none 0 0, .slice none 0 0] 31 := ⟨_, rfl⟩
          have hB2 := hW.out.trans (hb2.mono hW.out.size)
          have hA2 : Below w2.heap.size w2 (w2.alloc O2) := (Below.refl _ _).alloc (Nat.le_refl _) _
          have hB2' := hB2.trans (hA2.mono hB2.size)
          have hcd := (hx2.below hA2).code (HE.out.below hB2')
          rw [hO2] at hcd
          have H2 := (show Hid _ from And.intro hB2' hO2)
          clear hps h2 hx2 hb2 hB2 hA2 hB2' hO2 hpe
          go_wp2_with fail
          refine hcd.mono ?_
          rintro e w3 ⟨rfl, hb3⟩
          go_wp2_with fail
          go_ret
          obtain ⟨hB2', hO2⟩ := H2.out
          rw [← hO2] at hb3
          exact ⟨rfl, hB2'.trans (hb3.mono hB2'.size)⟩
        · have z16 : ¬ (16 : Int) ≤ (j : Int) := by omega
          have z16' : (j : Int) < 16 := by omega
          rw [deep_ok false j (by omega)] at hps
          have hdp := deep_depth false j (by omega)
          obtain ⟨v0, hv0⟩ : ∃ v, v = deepV false j := ⟨_, rfl⟩
          rw [← hv0] at hps hdp
          clear hv0
          go_wp2_with fail
          refine hps.mono ?_
          intro e w2 h2
          obtain ⟨a1, c1, a2, c2, rfl, hr2, hb2⟩ := h2.value
          obtain ⟨O2, hO2⟩ : ∃ O, O = Obj.cells #[.int .i64 v0.kind, .int .i64 v0.num, .string v0.text, .slice a1 v0.list.length c1, .slice a2 v0.fields.length c2] 31 := ⟨_, rfl⟩
          have hB2 := hW.out.trans (hb2.mono hW.out.size)
          have hA2 : Below w2.heap.size w2 (w2.alloc O2) := (Below.refl _ _).alloc (Nat.le_refl _) _
          have hB2' := hB2.trans (hA2.mono hB2.size)
          have hcd := Depth_any 16 (by omega) v0 _ _ _ (hr2.below hA2).lies
          rw [show depthV (16 + 1) v0 = (j : Int) + 1 from hdp] at hcd
          rw [hO2] at hcd
          have H2 := (show Hid _ from And.intro hB2' hO2)
          clear hps h2 hr2 hb2 hB2 hA2 hB2' hO2 hdp
          go_wp2_with fail
          refine hcd.mono ?_
          rintro e w3 ⟨rfl, hb3⟩
          go_wp2_with fail
          go_ret
          obtain ⟨hB2', hO2⟩ := H2.out
          rw [← hO2] at hb3
          exact ⟨rfl, hB2'.trans (hb3.mono hB2'.size)⟩
  · go_loopg [8, 9] m (fun gg s i wr => ∃ (j : Nat) (B : ByteArray), j ≤ m ∧ m - j ≤ gg ∧ i = .int .i64 j ∧ s = .string B ∧ Aside (B = deepB true j) ∧ Aside (Below W.heap.size W wr))
    case atStart => exact ⟨0, _, Nat.zero_le _, by omega, rfl, rfl, rfl, H1.out⟩
    case round =>
      obtain ⟨j, B, hj, hgg, rfl, rfl, hB, hW⟩ := hrel
      have hBz : B.size ≤ 200 := by rw [hB.out]; have := deepB_size true j; omega
      by_cases hlt : j < m
      · have zk : (j : Int) < (m : Int) := by omega
        go_wp2_with fail
        go_roundg (m - (j + 1))
        case measure => omega
        case rel => exact ⟨j + 1, _, by omega, by omega, by go_num, rfl, by rw [hB.out]; rfl, hW.out⟩
      · have zk : ¬ (j : Int) < (m : Int) := by omega
        obtain rfl : j = m := by omega
        have hps := Parse_any B wr (HE.out.below hW.out)
        rw [hB.out, deepB_list, ← hB.out] at hps
        clear hBz
        by_cases h16 : 16 ≤ j
        · have z16 : (16 : Int) ≤ (j : Int) := by omega
          have z16' : ¬ (j : Int) < 16 := by omega
          have hpe : parseP (deepL true j) = .error 2 := by
            have := deep_no true (j - 16) (by omega)
            rwa [show j - 16 + 16 = j by omega] at this
          rw [hpe] at hps
          go_wp2_with fail
          refine hps.mono ?_
          intro e w2 h2
          obtain ⟨u2, z2, rfl, hx2, hb2⟩ := h2.fault
          obtain ⟨O2, hO2⟩ : ∃ O, O = Obj.cells #[.int .i64 0, .int .i64 0, .string ⟨#[]⟩, .slice none 0 0, .slice none 0 0] 31 := ⟨_, rfl⟩
          have hB2 := hW.out.trans (hb2.mono hW.out.size)
          have hA2 : Below w2.heap.size w2 (w2.alloc O2) := (Below.refl _ _).alloc (Nat.le_refl _) _
          have hB2' := hB2.trans (hA2.mono hB2.size)
          have hcd := (hx2.below hA2).code (HE.out.below hB2')
          rw [hO2] at hcd
          have H2 := (show Hid _ from And.intro hB2' hO2)
          clear hps h2 hx2 hb2 hB2 hA2 hB2' hO2 hpe
          go_wp2_with fail
          refine hcd.mono ?_
          rintro e w3 ⟨rfl, hb3⟩
          go_wp2_with fail
          go_ret
          obtain ⟨hB2', hO2⟩ := H2.out
          rw [← hO2] at hb3
          exact ⟨rfl, hB2'.trans (hb3.mono hB2'.size)⟩
        · have z16 : ¬ (16 : Int) ≤ (j : Int) := by omega
          have z16' : (j : Int) < 16 := by omega
          rw [deep_ok true j (by omega)] at hps
          have hdp := deep_depth true j (by omega)
          obtain ⟨v0, hv0⟩ : ∃ v, v = deepV true j := ⟨_, rfl⟩
          rw [← hv0] at hps hdp
          clear hv0
          go_wp2_with fail
          refine hps.mono ?_
          intro e w2 h2
          obtain ⟨a1, c1, a2, c2, rfl, hr2, hb2⟩ := h2.value
          obtain ⟨O2, hO2⟩ : ∃ O, O = Obj.cells #[.int .i64 v0.kind, .int .i64 v0.num, .string v0.text, .slice a1 v0.list.length c1, .slice a2 v0.fields.length c2] 31 := ⟨_, rfl⟩
          have hB2 := hW.out.trans (hb2.mono hW.out.size)
          have hA2 : Below w2.heap.size w2 (w2.alloc O2) := (Below.refl _ _).alloc (Nat.le_refl _) _
          have hB2' := hB2.trans (hA2.mono hB2.size)
          have hcd := Depth_any 16 (by omega) v0 _ _ _ (hr2.below hA2).lies
          rw [show depthV (16 + 1) v0 = (j : Int) + 1 from hdp] at hcd
          rw [hO2] at hcd
          have H2 := (show Hid _ from And.intro hB2' hO2)
          clear hps h2 hr2 hb2 hB2 hA2 hB2' hO2 hdp
          go_wp2_with fail
          refine hcd.mono ?_
          rintro e w3 ⟨rfl, hb3⟩
          go_wp2_with fail
          go_ret
          obtain ⟨hB2', hO2⟩ := H2.out
          rw [← hO2] at hb3
          exact ⟨rfl, hB2'.trans (hb3.mono hB2'.size)⟩
end Go.Proofs.YtnkoblhdbccbeaaGreatDoor
