/-
  HeapNext's walk. No conditions beyond those stated.
-/
import Derived.Test.YtjihfbahcebljaaDoorHLoop
import Derived.Test.YtjihfbahcebljaaDoorHCount
namespace Go.Proofs.YtjihfbahcebljaaDoor
open Go.RowKit

set_option maxRecDepth 100000 in
set_option maxHeartbeats 8000000 in
theorem HeapNext_walk (v0 : Value) (acts : List Ac) (c1 : Int) (_wc1 : (Lit.int .i64 c1).wf = true) (w : World) (ha : ActsAt w v0 acts) (hT : Tabs w) :
    Calls Tryd.prog 4 #[v0, .int .i64 c1] w fun e w' => e = .returned (.bool true) ∧ Below w.heap.size w w' := by
  obtain ⟨a, cap, rfl, hc1, hc2⟩ := ha.slice
  have hat := ha.take 60
  obtain ⟨N, hN⟩ : ∃ N, min 60 acts.length = N := ⟨_, rfl⟩
  rw [hN] at hat
  have hNl : (acts.take 60).length = N := by rw [List.length_take, hN]
  obtain ⟨al, has⟩ : ∃ al, acts.take 60 = al := ⟨_, rfl⟩
  rw [has] at hat hNl
  have hm0 : 0 ≤ min (acts.length : Int) 60 := by omega
  have hm1 : min (acts.length : Int) 60 ≤ (cap : Int) := by omega
  have hmn : (min (acts.length : Int) 60).toNat = N := by omega
  have hN80 : N ≤ 60 := by omega
  obtain ⟨zc, hzc⟩ : ∃ zc, c1 = zc := ⟨_, rfl⟩
  rw [hzc]
  have HH := (show Hid _ from And.intro hat hT)
  have haw := hawake_true w
  have hmm := @run_makeMap Tryd.prog
  clear hat ha hT has hN hzc
  go_enter Tryd.func4, Tryd.ntmps4
  go_wp2_with fail
  refine haw.mono ?_
  rintro e w1 ⟨rfl, hB1⟩
  clear haw
  go_wp2_with fail
  refine (NewH_any w1).mono ?_
  rintro e w2 ⟨rfl, h2, hb2⟩
  obtain ⟨B, hBd⟩ : ∃ B, w1.heap.size = B := ⟨_, rfl⟩
  rw [hBd] at h2
  have hB2 : Below w.heap.size w w2 := hB1.trans (hb2.mono hB1.size)
  have zB : w.heap.size ≤ B := by have := hB1.size; omega
  have hw2 : Below w2.heap.size w2 (w2.alloc (.map #[] 0)) := (Below.refl _ _).alloc (Nat.le_refl _) _
  have H2 : Hid (Lop B w2.heap.size w (w2.alloc (.map #[] 0)) [] 0 0) := ⟨h2.below hw2, pair_made h2.base_le, hB2.trans (hw2.mono hB2.size)⟩
  obtain ⟨M, hM⟩ : ∃ M, w2.heap.size = M := ⟨_, rfl⟩
  rw [hM] at H2
  rw [hBd]
  clear h2 hB2 hb2 hBd hB1 hw2
  go_wp2_with fail
  try rw [hM]
  go_loopg [7, 9, 10, 11, 31] N (fun gg s9 _ _ _ i wr => ∃ (k : Nat) (rs : List Rec) (last : Int), k ≤ N ∧ N - k ≤ gg ∧ i = .int .i64 k ∧ s9 = .int .i64 last ∧ last ≤ k ∧ rs.length ≤ k ∧ Aside (Lop B M w wr rs last k))
  case atStart => exact ⟨0, [], 0, Nat.zero_le _, by omega, rfl, rfl, by simp, by simp, H2⟩
  case round =>
    obtain ⟨k, rs, last, hk, hgg, rfl, rfl, hlk, hrk, A⟩ := hrel
    by_cases hlt : k < N
    · obtain ⟨hat, hT⟩ := HH.out
      have hs : Lop B M w wr rs last k := A
      obtain ⟨⟨kd, id, eb, bs⟩, he⟩ : ∃ e, al[k]? = some e := ⟨_, List.getElem?_eq_getElem (by omega)⟩
      obtain ⟨b, o, ba, bc, rfl, -, c0, c1, c2, z0, z1, z2, z3, hbs⟩ := (hat.below hs.b).at he
      simp only at c0 c1 c2 z0 z1 z2 z3 hbs
      have zk : (k : Int) < (N : Int) := by omega
      have hw1 : ∀ ob, Below wr.heap.size wr (wr.alloc ob) := fun ob => (Below.refl _ _).alloc (Nat.le_refl _) _
      have hdo := fun ob => do_any kd id bs ba bc (wr.alloc ob) (hs.below (hw1 ob)).h (hs.below (hw1 ob)).p (by omega) (by omega) (by omega) z0 z2 (hbs.below (hw1 ob)) ((hT.below hs.b).below (hw1 ob))
      clear hat hT hs he hbs
      go_wp2_with fail
      refine (hdo _).mono ?_
      rintro e w3 ⟨rs', last', rfl, h3, hp3, hb3, hl3, hr3⟩
      have hs : Lop B M w wr rs last k := A
      have H4 : Hid (Lop B M w w3 rs' last' (k + 1)) := ⟨h3, hp3, (hs.below (hw1 _)).b.trans (hb3.mono zB)⟩
      clear hdo h3 hp3 hb3 hs hw1
      go_wp2
      go_roundg (N - (k + 1))
      case measure => omega
      case rel => exact ⟨k + 1, rs', last', by omega, by omega, by go_num, rfl, by omega, by omega, H4⟩
    · obtain rfl : k = N := by omega
      have zk : ¬ (k : Int) < (k : Int) := by omega
      have hs : Lop B M w wr rs last k := A
      obtain ⟨hM5, g, hm5, hg5⟩ := hs.p
      have hrise : RisesR 0 rs := hs.h.2.1
      have H5 : Hid (HSt B wr B rs last ∧ Below w.heap.size w wr ∧ Lp wr g rs ∧ RisesR 0 rs ∧ MapOn mkV wr M k g rs.length) := ⟨hs.h, hs.b, hg5, hrise, hm5⟩
      have zr60 : rs.length ≤ 60 := by omega
      have zl60 : last ≤ 60 := by omega
      clear hm0 hm1 hmn hc1 hc2 hNl hgg hlk hk hlt hrk
      obtain ⟨w5, e5⟩ : ∃ w5, wr = w5 := ⟨_, rfl⟩
      rw [e5] at H5 hm5 ⊢
      clear hs hg5 hrise e5 A
      go_wp2_with (first | (at_range; refine wpList_mrange rfl _ 26 rfl 38 Tryd.underlying26 M k g rs.length rfl hm5 ?_; intro w6 hr6 hg6 hz6) | fail)
      try go_frame
      have H6 := (show Hid _ from And.intro hr6 (And.intro hg6 hz6))
      clear hr6 hg6 hz6 hm5
      go_loopg [12, 13] rs.length (fun gg s12 _ wr => ∃ (left : Int → Bool) (cnt c : Nat), cnt ≤ gg ∧ s12 = .int .i64 (c : Int) ∧ c ≤ 60 ∧ Aside (c + cntL zc left rs = cntA zc rs ∧ RangeOn mkV wr M w5.heap.size k g rs.length left cnt ∧ Below w5.heap.size w5 wr))
      case atStart =>
        refine ⟨_, rs.length, 0, Nat.le_refl _, rfl, Nat.zero_le _, ?_, H6.out.1, ⟨H6.out.2.1.os, H6.out.2.1.tape, H6.out.2.1.output, by have := H6.out.2.2; omega, fun b hb => H6.out.2.1.block b hb (by simp)⟩⟩
        rw [Nat.zero_add]
        refine cntL_all fun r hr => ?_
        rw [H5.out.2.2.1.isSome, mem_getR H5.out.2.2.2.1 (show (r.1, r.2) ∈ rs from hr)]; rfl
      case round =>
        obtain ⟨left, cnt, c, hcnt, rfl, hc60, AR⟩ := hrel
        have hrg : RangeOn mkV wr M w5.heap.size k g rs.length left cnt := AR.out.2.1
        go_wp2_with (first | (at_next; refine wpList_mnext rfl _ rfl M w5.heap.size k g rs.length left cnt rfl hrg ?_ ?_) | fail)
        · intro hl0
          have hcA : c = cntA zc rs := by have := AR.out.1; rw [cntL_none hl0] at this; omega
          have HB : Hid (Below w5.heap.size w5 wr) := AR.out.2.2
          obtain ⟨w7, e7⟩ : ∃ w7, wr = w7 := ⟨_, rfl⟩
          rw [e7] at HB ⊢
          have HA : Hid (c = cntA zc rs) := hcA
          clear hrg AR hcA e7
          go_wp2
          go_loopg [12, 14, 15, 16, 17, 18] 61 (fun gg s12 s14 _ _ _ _ wr => ∃ (c : Nat) (at' : Int), s12 = .int .i64 (c : Int) ∧ s14 = .int .i64 at' ∧ c ≤ 60 ∧ c < gg ∧ Aside (c = cntA at' rs ∧ Below w7.heap.size w7 wr))
          case atStart => exact ⟨c, zc, rfl, rfl, hc60, by omega, HA, Below.refl _ _⟩
          case round =>
            obtain ⟨c, at', rfl, rfl, hc60, hcg, AB⟩ := hrel
            have hb5 : Below w5.heap.size w5 wr := HB.out.trans (AB.out.2.mono HB.out.size)
            cases hnx : nextR at' rs with
            | none =>
              have hc0 : c = 0 := by rw [AB.out.1, cntA_none hnx]
              subst hc0
              have hcall := NextH_none at' wr (H5.out.1.below hb5) hnx
              clear hnx hb5
              go_wp2_with fail
              refine hcall.mono ?_
              rintro e w8 ⟨rfl, hb8⟩
              have H8 := (show Hid _ from hb8)
              clear hcall hb8
              go_wp2
              go_ret
              have hb58 := (HB.out.trans (AB.out.2.mono HB.out.size)).trans (H8.out.mono (HB.out.trans (AB.out.2.mono HB.out.size)).size)
              exact ⟨by simp, (H5.out.2.1.trans (hb58.mono H5.out.2.1.size)).alloc (by have := H5.out.2.1.size; have := hb58.size; omega) _⟩
            | some x =>
              obtain ⟨xi, xv⟩ := x
              have hca : c = cntA xi rs + 1 := by rw [AB.out.1, cntA_next H5.out.2.2.2.1 hnx]
              obtain ⟨c', hc'⟩ : ∃ c', cntA xi rs = c' := ⟨_, rfl⟩
              rw [hc'] at hca
              subst hca
              obtain ⟨hx1, hx2, -⟩ := next_someR H5.out.2.2.2.1 hnx
              simp only at hx1 hx2
              have hu := H5.out.1.2.2.1 _ (get_memR hx2)
              have hl := RisesR.above H5.out.2.2.2.1 _ (get_memR hx2)
              simp only at hu hl
              have hcall := NextH_some at' (xi, xv) wr (H5.out.1.below hb5) hnx
              have hgi := H5.out.2.2.1 xi
              obtain ⟨m, hm, hmv⟩ : ∃ m, g xi = some m ∧ m.v = xv := by
                have h1 := hgi.1
                rw [hx2] at h1
                cases hgj : g xi with
                | none => rw [hgj] at h1; cases h1
                | some m => rw [hgj] at h1; exact ⟨m, rfl, by simpa using h1⟩
              have hlm : Lies 3 w5 m.v (.slice m.al m.v.list.length m.cl) (.slice m.af m.v.fields.length m.cf) := hgi.2 m hm
              subst hmv
              have zle : ¬ xi ≤ at' := by omega
              have zc0 : ¬ ((c' + 1 : Nat) : Int) ≤ 0 := by omega
              have y1 : -1000000 ≤ ((c' + 1 : Nat) : Int) - 1 := by omega
              have y2 : ((c' + 1 : Nat) : Int) - 1 ≤ 1000000 := by omega
              have zwf : (Lit.int .i64 xi).wf = true := wf_small (by omega) (by omega)
              have CC : Hid (c' ≤ 60 ∧ c' < c' + 1 ∧ c' + 1 < gk ∧ c' = cntA xi rs ∧ ((c' + 1 : Nat) : Int) - 1 = (c' : Int) ∧ wrap64 (c' : Int) = (c' : Int)) := ⟨by omega, by omega, hcg, hc'.symm, by omega, wrap64_small (by omega) (by omega)⟩
              have zw1 : wrap64 (((c' + 1 : Nat) : Int) - 1) = (c' : Int) := (wrap64_small y1 y2).trans CC.out.2.2.2.2.1
              clear hnx hx1 hx2 hu hl hgi hb5 y1 y2 hc60 hcg hc'
              go_wp2_with fail
              refine hcall.mono ?_
              rintro e w8 ⟨l, f, rfl, hl8, hb8⟩
              obtain ⟨a1, e1, a2, e2, rfl, rfl⟩ := hl8.slices
              have hb78 : Below w7.heap.size w7 w8 := AB.out.2.trans (hb8.mono AB.out.2.size)
              have hb58 : Below w5.heap.size w5 w8 := HB.out.trans (hb78.mono HB.out.size)
              have hA : ∀ ob, Below w8.heap.size w8 (w8.alloc ob) := fun ob => (Below.refl _ _).alloc (Nat.le_refl _) _
              have hA2 : ∀ ob ob2, Below w8.heap.size w8 ((w8.alloc ob).alloc ob2) := fun ob ob2 => (hA ob).alloc (by simp) _
              have hmA : ∀ ob, MapOn mkV (w8.alloc ob) M k g rs.length := fun ob => map_kept H5.out.2.2.2.2 (below_kept (hb58.trans ((hA ob).mono hb58.size)))
              have hsm := fun ob ob2 => same_self (hl8.below (hA2 ob ob2)) (Rep.le (hlm.below (hb58.trans ((hA2 ob ob2).mono hb58.size))) (by decide : 3 ≤ 5))
              have H8 := (show Hid _ from And.intro hb78 hb78.size)
              clear hcall hl8 hb8 hb78 hb58
              go_wp2_with (first | (at_lookup; refine wpList_mlook_ok_some rfl _ _ 26 rfl 38 Tryd.underlying26 (zeroValueV _) M k g rs.length rfl (hmA _) xi zwf rfl m hm ?_; unfold mkV) | fail)
              refine (hsm _ _).mono ?_
              rintro e w9 ⟨rfl, hb9⟩
              have d9 := (row6 (row_below hb9 heap_alloc2_old)).1
              have H9 : Hid (Below w7.heap.size w7 w9) := (H8.out.1.trans ((hA2 _ _).mono H8.out.2)).trans (hb9.mono (Nat.le_trans H8.out.2 (hA2 _ _).size))
              clear hsm hb9 hmA hA hA2
              go_wp2
              go_roundg (c' + 1)
              case measure => exact CC.out.2.2.1
              case rel => exact ⟨c', xi, by first | rfl | (simp; done) | (simp; exact CC.out.2.2.2.2.2), rfl, CC.out.1, CC.out.2.1, CC.out.2.2.2.1, H9.out⟩
        · intro i u w7 cnt7 hwf hgi hli hr7 hlt7 hg7 hs7 hen
          obtain ⟨u, ual, ucl, uaf, ucf⟩ := u
          have hen' : (Instr.entry (.pointer (some ⟨w5.heap.size, 0, none⟩))).run Tryd.prog w7 = .ok (.tuple #[.int .i64 i, .agg #[.int .i64 u.kind, .int .i64 u.num, .string u.text, .slice ual u.list.length ucl, .slice uaf u.fields.length ucf]]) w7 := hen
          have hb57 : Below w5.heap.size w5 w7 := (AR.out.2.2).grown hg7 AR.out.2.2.size (fun kk e => by cases e; exact Nat.le_refl _)
          have hst := cntL_step (after := zc) hli H5.out.2.2.2.1 (by rw [← H5.out.2.2.1.isSome, hgi]; rfl)
          have hsum := AR.out.1
          have hcl := cntA_le zc rs
          unfold mkV
          by_cases hgt : zc < i
          · rw [if_pos hgt] at hst
            have y0 : c + 1 ≤ 60 := by omega
            have y1 : -1000000 ≤ (c : Int) + 1 := by omega
            have y2 : (c : Int) + 1 ≤ 1000000 := by omega
            have HN : Hid (cnt7 < gk ∧ c + 1 ≤ 60 ∧ c + 1 + cntL zc (fun j => left j && !(j == i)) rs = cntA zc rs ∧ RangeOn mkV w7 M w5.heap.size k g rs.length (fun j => left j && !(j == i)) cnt7 ∧ Below w5.heap.size w5 w7) := ⟨by omega, y0, by omega, hr7, hb57⟩
            have zw1 : wrap64 ((c : Int) + 1) = (c : Int) + 1 := wrap64_small y1 y2
            clear hr7 hg7 hs7 hen hb57 hrg hli hlt7 hcnt hst hsum hcl hgi y0 y1 y2 hc60
            go_wp2
            go_roundg cnt7
            case measure => exact HN.out.1
            case rel => exact ⟨_, cnt7, c + 1, Nat.le_refl _, by go_num, HN.out.2.1, HN.out.2.2.1, HN.out.2.2.2.1, HN.out.2.2.2.2⟩
          · rw [if_neg hgt] at hst
            have HN : Hid (cnt7 < gk ∧ c ≤ 60 ∧ c + cntL zc (fun j => left j && !(j == i)) rs = cntA zc rs ∧ RangeOn mkV w7 M w5.heap.size k g rs.length (fun j => left j && !(j == i)) cnt7 ∧ Below w5.heap.size w5 w7) := ⟨by omega, hc60, by omega, hr7, hb57⟩
            clear hr7 hg7 hs7 hen hb57 hrg hli hlt7 hcnt hst hsum hcl hgi hc60
            go_wp2
            go_roundg cnt7
            case measure => exact HN.out.1
            case rel => exact ⟨_, cnt7, c, Nat.le_refl _, rfl, HN.out.2.1, HN.out.2.2.1, HN.out.2.2.2.1, HN.out.2.2.2.2⟩
end Go.Proofs.YtjihfbahcebljaaDoor
