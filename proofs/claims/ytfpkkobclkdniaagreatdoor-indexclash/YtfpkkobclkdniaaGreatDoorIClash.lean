/-
  index.Clash by its contract: the first entry that has the key of the one ahead of it. Conditions: as stated.
-/
import Derived.Test.YtfpkkobclkdniaaGreatDoorU8
import Derived.Test.YtfpkkobclkdniaaGreatDoorU20
import Derived.Test.YtfpkkobclkdniaaGreatDoorU16
import Derived.Lib.QuietBelow
import Derived.BigQuiet
namespace Go.Proofs.YtfpkkobclkdniaaGreatDoor
open Go.RowKit

theorem row2_ofI {w : World} {b t : Nat} {u v : Value} (hr : w.heap[b]? = some (.cells #[u, v] t (0, 0))) : w.cell? ⟨b, 0, none⟩ = some u ∧ w.cell? ⟨b, 1, none⟩ = some v ∧ ∀ j, w.frozen? ⟨b, j, none⟩ = false := by
  refine ⟨by simp [World.cell?, hr], by simp [World.cell?, hr], fun j => ?_⟩
  simp [World.frozen?, hr]
set_option maxRecDepth 100000 in
set_option maxHeartbeats 8000000 in
theorem Clash_any (l : List En) (v : Value) (w : World) (h : EnsAt w v l) (hl : l.length ≤ 1000000) :
    Calls Tryz.prog 24 #[v] w fun e w' => ∃ k i ok, e = .returned (.tuple #[.agg #[.string k, .int .i64 i], .bool ok]) ∧ ClAns l k i ok ∧ Below w.heap.size w w' := by
  obtain ⟨a, cap, rfl, hc1, hc2⟩ := h.slice
  obtain ⟨N, hN⟩ : ∃ N, l.length = N := ⟨_, rfl⟩
  rw [hN] at h hl ⊢
  obtain ⟨W, hW⟩ : ∃ W, w.alloc (.cells #[.string ⟨#[]⟩, .int .i64 0] 58) = W := ⟨_, rfl⟩
  have hB : Below w.heap.size w W := by rw [← hW]; exact (Below.refl _ _).alloc (Nat.le_refl _) _
  have r0 : W.heap[w.heap.size]? = some (.cells #[.string ⟨#[]⟩, .int .i64 0] 58) := by rw [← hW]; exact heap_alloc_new _ _
  have HH := (show Hid _ from And.intro (h.below hB) (And.intro hB (And.intro r0 hN)))
  clear h hB r0 hN hc1 hc2
  go_enter Tryz.func24, Tryz.ntmps24
  go_wp2_with fail
  try rw [hW]
  clear hW
  go_loopg [4] N (fun gg i wr => ∃ m : Nat, m ≤ N ∧ N - m ≤ gg ∧ i = .int .i64 ((m : Int) + 1) ∧ Aside (Below W.heap.size W wr ∧ ∀ q, 0 < q → q < m + 1 → ¬ Cl l q))
  case atStart => exact ⟨0, Nat.zero_le _, by omega, by simp, Below.refl _ _, fun q h0 h1 => by omega⟩
  case round =>
    obtain ⟨m, hm, hgg, rfl, A⟩ := hrel
    obtain ⟨hb, hcl⟩ := A.out
    obtain ⟨hat, hB, r0, hN⟩ := HH.out
    have r1 := (hb.block _ (lt_of_heap r0)).trans r0
    have zs := lt_of_heap r0
    by_cases hlt : m + 1 < N
    · obtain ⟨⟨xk, xi⟩, hx⟩ : ∃ x, l[m + 1]? = some x := ⟨_, List.getElem?_eq_getElem (by omega)⟩
      obtain ⟨⟨yk, yi⟩, hy⟩ : ∃ y, l[m]? = some y := ⟨_, List.getElem?_eq_getElem (by omega)⟩
      obtain ⟨b, o, rfl, c0, c1⟩ := (hat.below hb).at hx
      obtain ⟨b', o', e', d0, -⟩ := (hat.below hb).at hy
      simp only [Option.some.injEq, Addr.mk.injEq, and_true] at e'
      obtain ⟨rfl, rfl⟩ := e'
      have zj : wrap64 (m : Int) = (m : Int) := by unfold wrap64; omega
      have zjl : (m : Int) < (N : Int) := by omega
      have zj1 : (m : Int) + 1 < (N : Int) := by omega
      have zj2 : (0 : Int) ≤ (m : Int) + 1 := by omega
      dsimp only at c0 c1 d0
      have hck : Cl l (m + 1) ↔ xk = yk := cl_is hx hy
      have HK := (show Hid _ from And.intro hb (And.intro hcl (And.intro hB (And.intro r1 (And.intro hx (And.intro c0 (And.intro c1 hck)))))))
      have G0 := cell_regrown c0
      have G1 := cell_regrown d0
      clear hb hcl hat hB r0 hN r1 hx hy c0 c1 d0 hck
      by_cases he : xk = yk
      · subst he
        go_wp2_with fail
        refine wp_region_quiet_below mixedE (by kernel_rfl) ?_
        repeat go_big_quiet_step (fail)
        refine wpQuiet_nil ?_
        rintro w' ⟨⟨dq, osq⟩, hw'⟩
        have hb' : Below wr.heap.size wr w' := by rw [hw']; exact below_regrown _ dq osq
        obtain ⟨hb, hcl, hB, r1, hx, c0, c1, hck⟩ := HK.out
        have r2 := (hb'.block _ (lt_of_heap r1)).trans r1
        have k0 := (hb'.cell (lt_of_cell c0)).trans c0
        have k1 := (hb'.cell (lt_of_cell c1)).trans c1
        obtain ⟨e0, e1, ef⟩ := row2_ofI r2
        have HF := (show Hid (Below w.heap.size w w') from hB.trans ((hb.trans (hb'.mono hb.size)).mono hB.size))
        have HA : Hid (ClAns l xk xi true) := .inl ⟨rfl, m + 1, (xk, xi), by omega, hck.2 (by simp), hx, rfl, rfl, hcl⟩
        clear hw' G0 G1 hb' hb hcl hB r1 hx c0 c1 hck r2 HK
        go_wp2
        refine bodyPost_ret (v := .tuple #[.agg #[.string xk, .int .i64 xi], .bool true]) (by simp [results, Tryz.results24, go_sem, e0, e1]) rfl ⟨_, _, _, rfl, HA.out, ?_⟩
        exact (HF.out.setCell (Nat.le_refl _) _).setCell (Nat.le_refl _) _
      · have he' : (xk.toList == yk.toList) = false := by rw [beq_eq_false_iff_ne]; exact fun h => he (text_ext h)
        go_wp2_with fail
        refine wp_region_quiet_below mixedE (by kernel_rfl) ?_
        repeat go_big_quiet_step (fail)
        refine wpQuiet_nil ?_
        rintro w' ⟨⟨dq, osq⟩, hw'⟩
        have hb' : Below wr.heap.size wr w' := by rw [hw']; exact below_regrown _ dq osq
        have HQ := (show Hid _ from hb')
        clear hw' G0 G1 hb'
        go_wp2
        go_roundg (N - (m + 1))
        case measure => omega
        case rel => exact ⟨m + 1, by omega, by omega, by go_num, HK.out.1.trans (HQ.out.mono HK.out.1.size), cl_more HK.out.2.1 (fun hc => he (HK.out.2.2.2.2.2.2.2.1 hc))⟩
    · have zj1 : ¬ (m : Int) + 1 < (N : Int) := by omega
      obtain ⟨e0, e1, ef⟩ := row2_ofI r1
      have HF := (show Hid (Below w.heap.size w wr) from hB.trans (hb.mono hB.size))
      have HA : Hid (ClAns l ⟨#[]⟩ 0 false) := .inr ⟨rfl, rfl, rfl, cl_end fun q h0 h1 => hcl q h0 (by omega)⟩
      clear hb hcl hat hB r0 hN r1 zs
      go_wp2
      refine bodyPost_ret (v := .tuple #[.agg #[.string ⟨#[]⟩, .int .i64 0], .bool false]) (by simp [results, Tryz.results24, go_sem, e0, e1]) rfl ⟨_, _, .inl ⟨rfl, HA.out, ?_⟩⟩
      exact (HF.out.setCell (Nat.le_refl _) _).setCell (Nat.le_refl _) _
end Go.Proofs.YtfpkkobclkdniaaGreatDoor
