/-
  The law's own reading of digits: hex and unit, by their contracts. Conditions: as each states.
-/
import Derived.Test.YtdcaohnaiepllaaGreatDoorU7
namespace Go.Proofs.YtdcaohnaiepllaaGreatDoor
open Go.RowKit Go.Extern.Stop Go.Stop Go.Extern

def numI : Option Nat → Int
  | none => -1
  | some r => (r : Int)

theorem hex_any (x : UInt8) (w : World) : Calls Tryz.prog 114 #[.int .u8 (x.toNat : Int)] w fun e w' => e = .returned (.int .i64 (numI (hexv x.toNat))) ∧ w' = w := by
  have hx := x.toNat_lt
  generalize x.toNat = n at *
  obtain ⟨c, hc⟩ : ∃ c : Int, (n : Int) = c := ⟨_, rfl⟩
  rw [hc]
  have b0 : 0 ≤ c := by omega
  have b1 : c < 256 := by omega
  by_cases k0 : n < 48
  · have f0 : ¬ 48 ≤ c := by omega
    have f1 : ¬ 97 ≤ c := by omega
    have f2 : ¬ 65 ≤ c := by omega
    rw [hexv_none (by omega)]
    simp only [numI]
    clear hc
    go_enter Tryz.func114, Tryz.ntmps114
    go_wp2
    go_ret
    exact ⟨rfl, rfl⟩
  · skip
    by_cases k1 : n ≤ 57
    · have f0 : 48 ≤ c := by omega
      have f1 : c ≤ 57 := by omega
      rw [hexv_dec (by omega) (by omega)]
      have e : ((n - 48 : Nat) : Int) = c - 48 := by omega
      simp only [numI, e]
      clear hc e
      go_enter Tryz.func114, Tryz.ntmps114
      go_wp2
      go_ret
      exact ⟨rfl, rfl⟩
    · skip
      by_cases k2 : n < 65
      · have f0 : 48 ≤ c := by omega
        have f1 : ¬ c ≤ 57 := by omega
        have f2 : ¬ 97 ≤ c := by omega
        have f3 : ¬ 65 ≤ c := by omega
        rw [hexv_none (by omega)]
        simp only [numI]
        clear hc
        go_enter Tryz.func114, Tryz.ntmps114
        go_wp2
        go_ret
        exact ⟨rfl, rfl⟩
      · skip
        by_cases k3 : n ≤ 70
        · have f0 : 48 ≤ c := by omega
          have f1 : ¬ c ≤ 57 := by omega
          have f2 : ¬ 97 ≤ c := by omega
          have f3 : 65 ≤ c := by omega
          have f4 : c ≤ 70 := by omega
          rw [hexv_great (by omega) (by omega)]
          have e : ((n - 55 : Nat) : Int) = c - 65 + 10 := by omega
          simp only [numI, e]
          clear hc e
          go_enter Tryz.func114, Tryz.ntmps114
          go_wp2
          go_ret
          exact ⟨rfl, rfl⟩
        · skip
          by_cases k4 : n < 97
          · have f0 : 48 ≤ c := by omega
            have f1 : ¬ c ≤ 57 := by omega
            have f2 : ¬ 97 ≤ c := by omega
            have f3 : 65 ≤ c := by omega
            have f4 : ¬ c ≤ 70 := by omega
            rw [hexv_none (by omega)]
            simp only [numI]
            clear hc
            go_enter Tryz.func114, Tryz.ntmps114
            go_wp2
            go_ret
            exact ⟨rfl, rfl⟩
          · skip
            by_cases k5 : n ≤ 102
            · have f0 : 48 ≤ c := by omega
              have f1 : ¬ c ≤ 57 := by omega
              have f2 : 97 ≤ c := by omega
              have f3 : c ≤ 102 := by omega
              rw [hexv_small (by omega) (by omega)]
              have e : ((n - 87 : Nat) : Int) = c - 97 + 10 := by omega
              simp only [numI, e]
              clear hc e
              go_enter Tryz.func114, Tryz.ntmps114
              go_wp2
              go_ret
              exact ⟨rfl, rfl⟩
            · skip
              have f0 : 48 ≤ c := by omega
              have f1 : ¬ c ≤ 57 := by omega
              have f2 : 97 ≤ c := by omega
              have f3 : ¬ c ≤ 102 := by omega
              have f4 : 65 ≤ c := by omega
              have f5 : ¬ c ≤ 70 := by omega
              rw [hexv_none (by omega)]
              simp only [numI]
              clear hc
              go_enter Tryz.func114, Tryz.ntmps114
              go_wp2
              go_ret
              exact ⟨rfl, rfl⟩

theorem unitL_few {l : List UInt8} (h : l.length < 4) : unitL l = none := by
  match l, h with
  | [], _ => rfl
  | [_], _ => rfl
  | [_, _], _ => rfl
  | [_, _, _], _ => rfl

set_option maxRecDepth 20000 in
set_option maxHeartbeats 2000000 in
theorem lawUnit_any (s : ByteArray) (k : Nat) (hk : (k : Int) ≤ 1000000) (hs : (s.size : Int) ≤ 1000000) (w : World) :
    Calls Tryz.prog 92 #[.string s, .int .i64 (k : Int)] w fun e w' => e = .returned (.int .i64 (numI (unitL (s.data.toList.drop k)))) ∧ w' = w := by
  have hlen : (s.data.toList.drop k).length = s.size - k := by rw [List.length_drop, ← size_list rfl]
  by_cases c0 : s.size ≤ k
  · have z0 : (s.size : Int) ≤ (k : Int) := by omega
    have HN : Hid (unitL (s.data.toList.drop k) = none) := unitL_few (by rw [hlen]; omega)
    clear hlen c0
    go_enter Tryz.func92, Tryz.ntmps92
    go_wp2
    refine wp_loop_rounds 5 ?_
    rw [rounds_succ]
    go_wp2
    go_ret
    exact ⟨by rw [HN.out]; rfl, rfl⟩
  · have y0 : k < s.size := by omega
    have z0 : ¬ (s.size : Int) ≤ (k : Int) := by omega
    have p0 : (0 : Int) ≤ (k : Int) := by omega
    obtain ⟨x0, i0⟩ : ∃ x, s[k]'y0 = x := ⟨_, rfl⟩
    have d0 : s.data.toList.drop (k) = x0 :: s.data.toList.drop (k + 1) := by
      have hln : k < s.data.toList.length := by rw [← size_list rfl]; exact y0
      rw [List.drop_eq_getElem_cons hln, ← i0]
      rfl
    cases q0 : hexv x0.toNat with
    | none =>
      have HN : Hid (unitL (s.data.toList.drop k) = none) := by
        show _ = _
        by_cases hf : s.size - k < 4
        · exact unitL_few (by rw [hlen]; exact hf)
        · have hl4 : 4 ≤ (s.data.toList.drop k).length := by rw [hlen]; omega
          rw [d0] at hl4 ⊢
          match h' : s.data.toList.drop (k + 1), hl4 with
          | _ :: _ :: _ :: _, _ => simp only [unitL, q0]
      clear hlen d0 c0
      go_enter Tryz.func92, Tryz.ntmps92
      go_wp2
      refine wp_loop_rounds 5 ?_
      rw [rounds_succ]
      go_wp2_with fail
      refine (hex_any x0 _).mono ?_
      rintro e w' ⟨rfl, rfl⟩
      rw [q0]
      simp only [numI]
      go_wp2
      go_ret
      exact ⟨by rw [HN.out]; rfl, rfl⟩
    | some v0 =>
      have g0 : ¬ (v0 : Int) < 0 := by omega
      have l0 : (v0 : Int) < 16 := by have := hexv_lt q0; omega
      by_cases c1 : s.size ≤ k + 1
      · have z1 : (s.size : Int) ≤ (k : Int) + 1 := by omega
        have HN : Hid (unitL (s.data.toList.drop k) = none) := unitL_few (by rw [hlen]; omega)
        clear hlen d0 c1 c0
        go_enter Tryz.func92, Tryz.ntmps92
        go_wp2
        refine wp_loop_rounds 5 ?_
        rw [rounds_succ]
        go_wp2_with fail
        refine (hex_any x0 _).mono ?_
        rintro e w' ⟨rfl, rfl⟩
        rw [q0]
        simp only [numI]
        go_wp2_with fail
        refine (hex_any x0 _).mono ?_
        rintro e w' ⟨rfl, rfl⟩
        rw [q0]
        simp only [numI]
        go_wp2_with fail
        rw [rounds_succ]
        go_wp2
        go_ret
        exact ⟨by rw [HN.out]; rfl, rfl⟩
      · have y1 : k + 1 < s.size := by omega
        have z1 : ¬ (s.size : Int) ≤ (k : Int) + 1 := by omega
        have p1 : (0 : Int) ≤ (k : Int) + 1 := by omega
        obtain ⟨x1, i1⟩ : ∃ x, s[k + 1]'y1 = x := ⟨_, rfl⟩
        have d1 : s.data.toList.drop (k + 1) = x1 :: s.data.toList.drop (k + 1 + 1) := by
          have hln : k + 1 < s.data.toList.length := by rw [← size_list rfl]; exact y1
          rw [List.drop_eq_getElem_cons hln, ← i1]
          rfl
        cases q1 : hexv x1.toNat with
        | none =>
          have HN : Hid (unitL (s.data.toList.drop k) = none) := by
            show _ = _
            by_cases hf : s.size - k < 4
            · exact unitL_few (by rw [hlen]; exact hf)
            · have hl4 : 4 ≤ (s.data.toList.drop k).length := by rw [hlen]; omega
              rw [d0, d1] at hl4 ⊢
              match h' : s.data.toList.drop (k + 1 + 1), hl4 with
              | _ :: _ :: _, _ => simp only [unitL, q0, q1]
          clear hlen d0 d1 c0 c1
          go_enter Tryz.func92, Tryz.ntmps92
          go_wp2
          refine wp_loop_rounds 5 ?_
          rw [rounds_succ]
          go_wp2_with fail
          refine (hex_any x0 _).mono ?_
          rintro e w' ⟨rfl, rfl⟩
          rw [q0]
          simp only [numI]
          go_wp2_with fail
          refine (hex_any x0 _).mono ?_
          rintro e w' ⟨rfl, rfl⟩
          rw [q0]
          simp only [numI]
          go_wp2_with fail
          rw [rounds_succ]
          go_wp2_with fail
          refine (hex_any x1 _).mono ?_
          rintro e w' ⟨rfl, rfl⟩
          rw [q1]
          simp only [numI]
          go_wp2
          go_ret
          exact ⟨by rw [HN.out]; rfl, rfl⟩
        | some v1 =>
          have g1 : ¬ (v1 : Int) < 0 := by omega
          have l1 : (v1 : Int) < 16 := by have := hexv_lt q1; omega
          by_cases c2 : s.size ≤ k + 1 + 1
          · have z2 : (s.size : Int) ≤ (k : Int) + 1 + 1 := by omega
            have HN : Hid (unitL (s.data.toList.drop k) = none) := unitL_few (by rw [hlen]; omega)
            clear hlen d0 d1 c2 c0 c1
            go_enter Tryz.func92, Tryz.ntmps92
            go_wp2
            refine wp_loop_rounds 5 ?_
            rw [rounds_succ]
            go_wp2_with fail
            refine (hex_any x0 _).mono ?_
            rintro e w' ⟨rfl, rfl⟩
            rw [q0]
            simp only [numI]
            go_wp2_with fail
            refine (hex_any x0 _).mono ?_
            rintro e w' ⟨rfl, rfl⟩
            rw [q0]
            simp only [numI]
            go_wp2_with fail
            rw [rounds_succ]
            go_wp2_with fail
            refine (hex_any x1 _).mono ?_
            rintro e w' ⟨rfl, rfl⟩
            rw [q1]
            simp only [numI]
            go_wp2_with fail
            refine (hex_any x1 _).mono ?_
            rintro e w' ⟨rfl, rfl⟩
            rw [q1]
            simp only [numI]
            go_wp2_with fail
            rw [rounds_succ]
            go_wp2
            go_ret
            exact ⟨by rw [HN.out]; rfl, rfl⟩
          · have y2 : k + 1 + 1 < s.size := by omega
            have z2 : ¬ (s.size : Int) ≤ (k : Int) + 1 + 1 := by omega
            have p2 : (0 : Int) ≤ (k : Int) + 1 + 1 := by omega
            obtain ⟨x2, i2⟩ : ∃ x, s[k + 1 + 1]'y2 = x := ⟨_, rfl⟩
            have d2 : s.data.toList.drop (k + 1 + 1) = x2 :: s.data.toList.drop (k + 1 + 1 + 1) := by
              have hln : k + 1 + 1 < s.data.toList.length := by rw [← size_list rfl]; exact y2
              rw [List.drop_eq_getElem_cons hln, ← i2]
              rfl
            cases q2 : hexv x2.toNat with
            | none =>
              have HN : Hid (unitL (s.data.toList.drop k) = none) := by
                show _ = _
                by_cases hf : s.size - k < 4
                · exact unitL_few (by rw [hlen]; exact hf)
                · have hl4 : 4 ≤ (s.data.toList.drop k).length := by rw [hlen]; omega
                  rw [d0, d1, d2] at hl4 ⊢
                  match h' : s.data.toList.drop (k + 1 + 1 + 1), hl4 with
                  | _ :: _, _ => simp only [unitL, q0, q1, q2]
              clear hlen d0 d1 d2 c0 c1 c2
              go_enter Tryz.func92, Tryz.ntmps92
              go_wp2
              refine wp_loop_rounds 5 ?_
              rw [rounds_succ]
              go_wp2_with fail
              refine (hex_any x0 _).mono ?_
              rintro e w' ⟨rfl, rfl⟩
              rw [q0]
              simp only [numI]
              go_wp2_with fail
              refine (hex_any x0 _).mono ?_
              rintro e w' ⟨rfl, rfl⟩
              rw [q0]
              simp only [numI]
              go_wp2_with fail
              rw [rounds_succ]
              go_wp2_with fail
              refine (hex_any x1 _).mono ?_
              rintro e w' ⟨rfl, rfl⟩
              rw [q1]
              simp only [numI]
              go_wp2_with fail
              refine (hex_any x1 _).mono ?_
              rintro e w' ⟨rfl, rfl⟩
              rw [q1]
              simp only [numI]
              go_wp2_with fail
              rw [rounds_succ]
              go_wp2_with fail
              refine (hex_any x2 _).mono ?_
              rintro e w' ⟨rfl, rfl⟩
              rw [q2]
              simp only [numI]
              go_wp2
              go_ret
              exact ⟨by rw [HN.out]; rfl, rfl⟩
            | some v2 =>
              have g2 : ¬ (v2 : Int) < 0 := by omega
              have l2 : (v2 : Int) < 16 := by have := hexv_lt q2; omega
              by_cases c3 : s.size ≤ k + 1 + 1 + 1
              · have z3 : (s.size : Int) ≤ (k : Int) + 1 + 1 + 1 := by omega
                have HN : Hid (unitL (s.data.toList.drop k) = none) := unitL_few (by rw [hlen]; omega)
                clear hlen d0 d1 d2 c3 c0 c1 c2
                go_enter Tryz.func92, Tryz.ntmps92
                go_wp2
                refine wp_loop_rounds 5 ?_
                rw [rounds_succ]
                go_wp2_with fail
                refine (hex_any x0 _).mono ?_
                rintro e w' ⟨rfl, rfl⟩
                rw [q0]
                simp only [numI]
                go_wp2_with fail
                refine (hex_any x0 _).mono ?_
                rintro e w' ⟨rfl, rfl⟩
                rw [q0]
                simp only [numI]
                go_wp2_with fail
                rw [rounds_succ]
                go_wp2_with fail
                refine (hex_any x1 _).mono ?_
                rintro e w' ⟨rfl, rfl⟩
                rw [q1]
                simp only [numI]
                go_wp2_with fail
                refine (hex_any x1 _).mono ?_
                rintro e w' ⟨rfl, rfl⟩
                rw [q1]
                simp only [numI]
                go_wp2_with fail
                rw [rounds_succ]
                go_wp2_with fail
                refine (hex_any x2 _).mono ?_
                rintro e w' ⟨rfl, rfl⟩
                rw [q2]
                simp only [numI]
                go_wp2_with fail
                refine (hex_any x2 _).mono ?_
                rintro e w' ⟨rfl, rfl⟩
                rw [q2]
                simp only [numI]
                go_wp2_with fail
                rw [rounds_succ]
                go_wp2
                go_ret
                exact ⟨by rw [HN.out]; rfl, rfl⟩
              · have y3 : k + 1 + 1 + 1 < s.size := by omega
                have z3 : ¬ (s.size : Int) ≤ (k : Int) + 1 + 1 + 1 := by omega
                have p3 : (0 : Int) ≤ (k : Int) + 1 + 1 + 1 := by omega
                obtain ⟨x3, i3⟩ : ∃ x, s[k + 1 + 1 + 1]'y3 = x := ⟨_, rfl⟩
                have d3 : s.data.toList.drop (k + 1 + 1 + 1) = x3 :: s.data.toList.drop (k + 1 + 1 + 1 + 1) := by
                  have hln : k + 1 + 1 + 1 < s.data.toList.length := by rw [← size_list rfl]; exact y3
                  rw [List.drop_eq_getElem_cons hln, ← i3]
                  rfl
                cases q3 : hexv x3.toNat with
                | none =>
                  have HN : Hid (unitL (s.data.toList.drop k) = none) := by
                    show _ = _
                    by_cases hf : s.size - k < 4
                    · exact unitL_few (by rw [hlen]; exact hf)
                    · have hl4 : 4 ≤ (s.data.toList.drop k).length := by rw [hlen]; omega
                      rw [d0, d1, d2, d3] at hl4 ⊢
                      match h' : s.data.toList.drop (k + 1 + 1 + 1 + 1), hl4 with
                      | _, _ => simp only [unitL, q0, q1, q2, q3]
                  clear hlen d0 d1 d2 d3 c0 c1 c2 c3
                  go_enter Tryz.func92, Tryz.ntmps92
                  go_wp2
                  refine wp_loop_rounds 5 ?_
                  rw [rounds_succ]
                  go_wp2_with fail
                  refine (hex_any x0 _).mono ?_
                  rintro e w' ⟨rfl, rfl⟩
                  rw [q0]
                  simp only [numI]
                  go_wp2_with fail
                  refine (hex_any x0 _).mono ?_
                  rintro e w' ⟨rfl, rfl⟩
                  rw [q0]
                  simp only [numI]
                  go_wp2_with fail
                  rw [rounds_succ]
                  go_wp2_with fail
                  refine (hex_any x1 _).mono ?_
                  rintro e w' ⟨rfl, rfl⟩
                  rw [q1]
                  simp only [numI]
                  go_wp2_with fail
                  refine (hex_any x1 _).mono ?_
                  rintro e w' ⟨rfl, rfl⟩
                  rw [q1]
                  simp only [numI]
                  go_wp2_with fail
                  rw [rounds_succ]
                  go_wp2_with fail
                  refine (hex_any x2 _).mono ?_
                  rintro e w' ⟨rfl, rfl⟩
                  rw [q2]
                  simp only [numI]
                  go_wp2_with fail
                  refine (hex_any x2 _).mono ?_
                  rintro e w' ⟨rfl, rfl⟩
                  rw [q2]
                  simp only [numI]
                  go_wp2_with fail
                  rw [rounds_succ]
                  go_wp2_with fail
                  refine (hex_any x3 _).mono ?_
                  rintro e w' ⟨rfl, rfl⟩
                  rw [q3]
                  simp only [numI]
                  go_wp2
                  go_ret
                  exact ⟨by rw [HN.out]; rfl, rfl⟩
                | some v3 =>
                  have g3 : ¬ (v3 : Int) < 0 := by omega
                  have l3 : (v3 : Int) < 16 := by have := hexv_lt q3; omega
                  have HN : Hid (unitL (s.data.toList.drop k) = some (((v0 * 16 + v1) * 16 + v2) * 16 + v3)) := by
                    show _ = _
                    rw [d0, d1, d2, d3]
                    simp only [unitL, q0, q1, q2, q3]
                  clear hlen d0 d1 d2 d3 c0 c1 c2 c3
                  go_enter Tryz.func92, Tryz.ntmps92
                  go_wp2
                  refine wp_loop_rounds 5 ?_
                  rw [rounds_succ]
                  go_wp2_with fail
                  refine (hex_any x0 _).mono ?_
                  rintro e w' ⟨rfl, rfl⟩
                  rw [q0]
                  simp only [numI]
                  go_wp2_with fail
                  refine (hex_any x0 _).mono ?_
                  rintro e w' ⟨rfl, rfl⟩
                  rw [q0]
                  simp only [numI]
                  go_wp2_with fail
                  rw [rounds_succ]
                  go_wp2_with fail
                  refine (hex_any x1 _).mono ?_
                  rintro e w' ⟨rfl, rfl⟩
                  rw [q1]
                  simp only [numI]
                  go_wp2_with fail
                  refine (hex_any x1 _).mono ?_
                  rintro e w' ⟨rfl, rfl⟩
                  rw [q1]
                  simp only [numI]
                  go_wp2_with fail
                  rw [rounds_succ]
                  go_wp2_with fail
                  refine (hex_any x2 _).mono ?_
                  rintro e w' ⟨rfl, rfl⟩
                  rw [q2]
                  simp only [numI]
                  go_wp2_with fail
                  refine (hex_any x2 _).mono ?_
                  rintro e w' ⟨rfl, rfl⟩
                  rw [q2]
                  simp only [numI]
                  go_wp2_with fail
                  rw [rounds_succ]
                  go_wp2_with fail
                  refine (hex_any x3 _).mono ?_
                  rintro e w' ⟨rfl, rfl⟩
                  rw [q3]
                  simp only [numI]
                  go_wp2_with fail
                  refine (hex_any x3 _).mono ?_
                  rintro e w' ⟨rfl, rfl⟩
                  rw [q3]
                  simp only [numI]
                  go_wp2_with fail
                  rw [rounds_succ]
                  go_wp2
                  go_ret
                  rw [HN.out]
                  refine ⟨congrArg (fun z => Ending.returned (.int .i64 z)) (?_ : (_ : Int) = _), rfl⟩
                  simp only [numI]
                  omega
end Go.Proofs.YtdcaohnaiepllaaGreatDoor
