/-
  TreeNodes's walk. No conditions beyond those stated.
-/
import Derived.Test.YtgnhillnikjnfaaU25
namespace Go.Proofs.Ytgnhillnikjnfaa
open Go.RowKit

set_option maxRecDepth 100000 in
set_option maxHeartbeats 8000000 in
theorem TreeNodes_walk (v0 : Value) (acts : List Ac) (w : World) (ha : ActsAt w v0 acts) :
    Calls Try.prog 5 #[v0] w fun e w' => e = .returned (.bool true) ∧ Below w.heap.size w w' := by
  obtain ⟨a, cap, rfl, hc1, hc2⟩ := ha.slice
  have hat := ha.take 120
  obtain ⟨N, hN⟩ : ∃ N, min 120 acts.length = N := ⟨_, rfl⟩
  rw [hN] at hat
  have hNl : (acts.take 120).length = N := by rw [List.length_take, hN]
  obtain ⟨al, has⟩ : ∃ al, acts.take 120 = al := ⟨_, rfl⟩
  rw [has] at hat hNl
  have hm0 : 0 ≤ min (acts.length : Int) 120 := by omega
  have hm1 : min (acts.length : Int) 120 ≤ (cap : Int) := by omega
  have hmn : (min (acts.length : Int) 120).toNat = N := by omega
  have hN80 : N ≤ 120 := by omega
  have HH := (show Hid _ from And.intro hat hNl)
  have haw := awake_any w
  clear hat ha has hN hNl
  go_enter Try.func5, Try.ntmps5
  go_wp2_with fail
  refine haw.mono ?_
  rintro e w1 ⟨rfl, hB1⟩
  clear haw
  go_wp2_with fail
  refine (New_any w1).mono ?_
  rintro e w2 ⟨T, rfl, ht2, hb2⟩
  have H2 : Hid (Tree w w2 T []) := ⟨ht2.mono fun a ha => Nat.le_trans hB1.size ha, hB1.trans (hb2.mono hB1.size)⟩
  clear ht2 hb2 hB1
  have hright := right_any w2 H2.out.1 (by simp)
  have HR := (show Hid _ from hright)
  clear hright
  go_wp2_with fail
  refine Calls.mono HR.out ?_
  rintro e w3 ⟨rfl, hb3⟩
  have H3 : Hid (Tree w w3 T []) := H2.out.same hb3
  clear hb3 H2 HR
  go_wp2_with fail
  go_loopg [5, 22] N (fun gg _ i wr => ∃ (k : Nat) (l : List En), k ≤ N ∧ N - k ≤ gg ∧ i = .int .i64 k ∧ Aside (Tree w wr T l ∧ l.length ≤ k))
  case atStart => exact ⟨0, [], Nat.zero_le _, by omega, rfl, H3.out, Nat.le_refl _⟩
  case round =>
    obtain ⟨k, l, hk, hgg, rfl, A⟩ := hrel
    obtain ⟨hT, hl⟩ := A.out
    clear A H3
    by_cases hlt : k < N
    · obtain ⟨hat, hNl⟩ := HH.out
      obtain ⟨⟨kd, ky, id⟩, he⟩ : ∃ e, al[k]? = some e := ⟨_, List.getElem?_eq_getElem (by omega)⟩
      obtain ⟨b, o, rfl, hok, c0, c1, c2⟩ := (hat.below hT.2).at he
      simp only at c0 c1 c2
      have zk : (k : Int) < (N : Int) := by omega
      obtain ⟨W4, hW4, hb4, hs4, m0, m1, m2⟩ := boxA_any wr kd ky id
      have hent := Ent_any ⟨kd, ky, id⟩ hok W4
      obtain ⟨ek, ei, hee⟩ : ∃ ek ei, Ac.ent ⟨kd, ky, id⟩ = (ek, ei) := ⟨_, _, rfl⟩
      rw [hee] at hent
      have HE := (show Hid _ from hent)
      have H4 : Hid (Tree w W4 T l ∧ l.length ≤ k) := ⟨hT.same hb4, hl⟩
      have HK := (show Hid _ from And.intro hk hgg)
      clear hat hNl he hT hl hb4 hent hok hk hgg
      by_cases hkd : kd < 140
      · go_wp2_with fail
        refine Calls.mono HE.out ?_
        rintro e w5 ⟨rfl, hb5⟩
        have H5 : Hid (Tree w w5 T l ∧ l.length ≤ k) := ⟨H4.out.1.same hb5, H4.out.2⟩
        clear hb5 H4 HE m0 m1 m2 c0 c1 c2
        have hadd := AddT_any (ek, ei) w5 H5.out.1.1 (by have := H5.out.2; omega)
        have HA := (show Hid _ from hadd)
        clear hadd
        go_wp2_with fail
        refine Calls.mono HA.out ?_
        rintro e w6 ⟨rfl, ht6, hf6⟩
        have H6 : Hid (Tree w w6 T (insE (ek, ei) l) ∧ (insE (ek, ei) l).length ≤ k + 1) := ⟨H5.out.1.step ht6 hf6, by have := H5.out.2; have := len_with (ek, ei) false l; show (withL _ _ _).length ≤ _; omega⟩
        clear ht6 hf6 H5 HA
        have hright := right_any w6 H6.out.1.1 (by have := H6.out.2; omega)
        have HR := (show Hid _ from hright)
        clear hright
        go_wp2_with fail
        refine Calls.mono HR.out ?_
        rintro e w7 ⟨rfl, hb7⟩
        have H7 : Hid (Tree w w7 T (insE (ek, ei) l) ∧ (insE (ek, ei) l).length ≤ k + 1) := ⟨H6.out.1.same hb7, H6.out.2⟩
        clear hb7 H6 HR
        go_wp2
        go_roundg (N - (k + 1))
        case measure => have := HK.out; omega
        case rel => have := HK.out; exact ⟨k + 1, _, by omega, by omega, by simp, H7.out⟩
      · go_wp2_with fail
        refine Calls.mono HE.out ?_
        rintro e w5 ⟨rfl, hb5⟩
        have H5 : Hid (Tree w w5 T l ∧ l.length ≤ k) := ⟨H4.out.1.same hb5, H4.out.2⟩
        clear hb5 H4 HE m0 m1 m2 c0 c1 c2
        have hadd := DelT_any (ek, ei) w5 H5.out.1.1 (by have := H5.out.2; omega)
        have HA := (show Hid _ from hadd)
        clear hadd
        go_wp2_with fail
        refine Calls.mono HA.out ?_
        rintro e w6 ⟨rfl, ht6, hf6⟩
        have H6 : Hid (Tree w w6 T (delE (ek, ei) l) ∧ (delE (ek, ei) l).length ≤ k + 1) := ⟨H5.out.1.step ht6 hf6, by have := H5.out.2; have := len_with (ek, ei) true l; show (withL _ _ _).length ≤ _; omega⟩
        clear ht6 hf6 H5 HA
        have hright := right_any w6 H6.out.1.1 (by have := H6.out.2; omega)
        have HR := (show Hid _ from hright)
        clear hright
        go_wp2_with fail
        refine Calls.mono HR.out ?_
        rintro e w7 ⟨rfl, hb7⟩
        have H7 : Hid (Tree w w7 T (delE (ek, ei) l) ∧ (delE (ek, ei) l).length ≤ k + 1) := ⟨H6.out.1.same hb7, H6.out.2⟩
        clear hb7 H6 HR
        go_wp2
        go_roundg (N - (k + 1))
        case measure => have := HK.out; omega
        case rel => have := HK.out; exact ⟨k + 1, _, by omega, by omega, by simp, H7.out⟩
    · obtain rfl : N = k := by omega
      have HE : Hid (Tree w wr T l) := hT
      have zk : ¬ (N : Int) < (N : Int) := by omega
      clear hT hl hgg hk hlt
      go_wp2
      go_ret
      exact ⟨rfl, HE.out.2⟩
end Go.Proofs.Ytgnhillnikjnfaa
