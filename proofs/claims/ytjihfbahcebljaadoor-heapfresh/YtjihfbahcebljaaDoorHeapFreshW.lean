/-
  HeapFresh's walk. No conditions beyond those stated.
-/
import Derived.Test.YtjihfbahcebljaaDoorHAct
namespace Go.Proofs.YtjihfbahcebljaaDoor
open Go.RowKit

set_option maxRecDepth 100000 in
set_option maxHeartbeats 4000000 in
theorem HeapFresh_walk (v0 : Value) (acts : List Ac) (w : World) (ha : ActsAt w v0 acts) (hT : Tabs w) :
    Calls Tryd.prog 5 #[v0] w fun e w' => e = .returned (.bool true) ∧ Below w.heap.size w w' := by
  obtain ⟨a, cap, rfl, hc1, hc2⟩ := ha.slice
  have hat := ha.take 80
  obtain ⟨N, hN⟩ : ∃ N, min 80 acts.length = N := ⟨_, rfl⟩
  rw [hN] at hat
  have hNl : (acts.take 80).length = N := by rw [List.length_take, hN]
  obtain ⟨al, has⟩ : ∃ al, acts.take 80 = al := ⟨_, rfl⟩
  rw [has] at hat hNl
  have hm0 : 0 ≤ min (acts.length : Int) 80 := by omega
  have hm1 : min (acts.length : Int) 80 ≤ (cap : Int) := by omega
  have hmn : (min (acts.length : Int) 80).toNat = N := by omega
  have hN80 : N ≤ 80 := by omega
  have HH := (show Hid _ from And.intro hat hT)
  have haw := hawake_true w
  clear hat ha hT has hN
  go_enter Tryd.func5, Tryd.ntmps5
  go_wp2_with fail
  refine haw.mono ?_
  rintro e w1 ⟨rfl, hB1⟩
  clear haw
  go_wp2_with fail
  refine (NewH_any w1).mono ?_
  rintro e w2 ⟨rfl, h2, hb2⟩
  obtain ⟨B, hBd⟩ : ∃ B, w1.heap.size = B := ⟨_, rfl⟩
  rw [hBd] at h2
  have hB2 : Below w.heap.size w w2 := hB1.trans (hb2.mono hB1.size)
  have zB : w.heap.size ≤ B := by have := hB1.size; omega
  have H2 := (show Hid _ from And.intro h2 hB2)
  rw [hBd]
  clear h2 hB2 hb2 hBd hB1
  go_wp2_with fail
  go_loopg [4, 6, 7, 8, 20] N (fun gg s4 _ _ _ i wr => ∃ (k : Nat) (rs : List Rec) (last : Int), k ≤ N ∧ N - k ≤ gg ∧ i = .int .i64 k ∧ s4 = .int .i64 last ∧ last ≤ k ∧ rs.length ≤ k ∧ Aside (HSt B wr B rs last ∧ Below w.heap.size w wr))
  case atStart => exact ⟨0, [], 0, Nat.zero_le _, by omega, rfl, rfl, by simp, by simp, H2.out.1, H2.out.2⟩
  case round =>
    obtain ⟨k, rs, last, hk, hgg, rfl, rfl, hlk, hrk, A⟩ := hrel
    by_cases hlt : k < N
    · obtain ⟨hat, hT⟩ := HH.out
      obtain ⟨hs, hB⟩ := A.out
      obtain ⟨⟨kd, id, eb, bs⟩, he⟩ : ∃ e, al[k]? = some e := ⟨_, List.getElem?_eq_getElem (by omega)⟩
      obtain ⟨b, o, ba, bc, rfl, -, c0, c1, c2, z0, z1, z2, z3, hbs⟩ := (hat.below hB).at he
      simp only at c0 c1 c2 z0 z1 z2 z3 hbs
      have zk : (k : Int) < (N : Int) := by omega
      have zid : IntKind.i64.wrap (id.tmod 30) = id % 30 := by rw [IntKind.wrap_i64, Int.tmod_eq_emod_of_nonneg z2]; omega
      have hl0 : 0 ≤ last := hs.2.2.2.1
      have zl : wrap64 (last + 1) = last + 1 := by unfold wrap64; omega
      have hw1 : ∀ ob, Below wr.heap.size wr (wr.alloc ob) := fun ob => (Below.refl _ _).alloc (Nat.le_refl _) _
      have hdel := fun ob => DelH_any (id % 30) (wr.alloc ob) (hs.below (hw1 ob))
      have hof := fun ob => Of_any (.slice ba bs.length bc) bs (wr.alloc ob) (hbs.below (hw1 ob)) ((hT.below hB).below (hw1 ob))
      have hzw := hs.base_le
      have H3 := (show Hid _ from And.intro hs (And.intro hB hzw))
      clear hat hT hs hB he hbs hzw
      by_cases hz : kd % 2 = 0
      · clear hof
        go_wp2_with fail
        refine (hdel _).mono ?_
        rintro e w3 ⟨rfl, h3, -, hb3⟩
        have H4 := (show Hid _ from And.intro h3 (H3.out.2.1.trans (((hw1 _).mono (by have := H3.out.2.1.size; omega)).trans (hb3.mono zB))))
        clear hdel h3 hb3 hw1
        go_wp2
        go_roundg (N - (k + 1))
        case measure => omega
        case rel => exact ⟨k + 1, delR (id % 30) rs, last, by omega, by omega, by go_num, rfl, by omega, by rw [len_delR]; omega, H4.out.1, H4.out.2⟩
      · clear hdel
        go_wp2_with fail
        refine (hof _).mono ?_
        rintro e w3 ⟨x, l, f, rfl, hnx, hrx, hb3⟩
        have h3 : HSt B w3 B rs last := (H3.out.1.below (hw1 _)).below hb3
        have hB3 : Below w.heap.size w w3 := (H3.out.2.1.trans ((hw1 _).mono H3.out.2.1.size)).trans (hb3.mono (by have := H3.out.2.1.size; simp; omega))
        clear hof hw1
        go_wp2_with fail
        refine (InsH_any x l f w3 h3 hrx.lies (by omega) (by omega)).mono ?_
        rintro e w4 ⟨rfl, h4, -, hb4⟩
        have hB4 := hB3.trans (hb4.mono zB)
        clear h3 hrx hnx hb3 hb4 hB3
        go_wp2_with fail
        refine (LastH_any w4 h4).mono ?_
        rintro e w5 ⟨rfl, rfl⟩
        have H4 := (show Hid _ from And.intro h4 hB4)
        clear h4 hB4
        go_wp2
        go_roundg (N - (k + 1))
        case measure => omega
        case rel => exact ⟨k + 1, rs ++ [(last + 1, x)], last + 1, by omega, by omega, by go_num, rfl, by omega, by simp; omega, H4.out.1, H4.out.2⟩
    · obtain rfl : k = N := by omega
      have zk : ¬ (k : Int) < (k : Int) := by omega
      obtain ⟨hs, hB⟩ := A.out
      go_wp2_with fail
      refine (LastH_any wr hs).mono ?_
      rintro e w5 ⟨rfl, rfl⟩
      go_wp2
      go_ret
      exact ⟨by simp, hB⟩
end Go.Proofs.YtjihfbahcebljaaDoor
