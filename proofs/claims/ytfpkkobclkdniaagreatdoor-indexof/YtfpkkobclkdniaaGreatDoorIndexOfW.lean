/-
  IndexOf's walk. No conditions beyond those stated.
-/
import Derived.Test.YtfpkkobclkdniaaGreatDoorU24
import Derived.Test.YtfpkkobclkdniaaGreatDoorIFilled
import Derived.Test.YtfpkkobclkdniaaGreatDoorBSame
namespace Go.Proofs.YtfpkkobclkdniaaGreatDoor
open Go.RowKit

theorem ofP_len500 {base B : Nat} {W : World} {rs : List Rec} {last : Int} (ps : List ByteArray) (h : HSt base W B rs last) : (ofP ps rs).length ≤ 500 := Nat.le_trans (ofP_len ps rs) h.2.2.2.2
set_option maxRecDepth 100000 in
set_option maxHeartbeats 16000000 in
theorem IndexOf_walk (n : Int) (h0 : 0 ≤ n) (v1 : Value) (ls : List (List UInt8)) (v2 : Value) (bs : List UInt8) (w : World) (hl : BssAt w v1 ls) (hb : BytesAt w v2 bs) (hE : PEnv w ∧ Tabs w) :
    Calls Tryz.prog 5 #[.int .u8 n, v1, v2] w fun e w' => e = .returned (.bool true) ∧ Below w.heap.size w w' := by
  obtain ⟨hE, hT⟩ := hE
  obtain ⟨nm, path, uu, ps, S⟩ := specK n h0 false
  have haw := iawake_true w hE
  obtain ⟨la, lcap, rfl, hlc1, hlc2⟩ := hl.slice
  obtain ⟨ba, bcap, rfl, hbc1, hbc2, -⟩ := id hb
  obtain ⟨G, hG⟩ : ∃ G, min 20 bs.length = G := ⟨_, rfl⟩
  have hm0 : 0 ≤ min (bs.length : Int) 20 := by omega
  have hm1 : min (bs.length : Int) 20 ≤ (bcap : Int) := by omega
  have hmn : (min (bs.length : Int) 20).toNat = G := by omega
  have hG20 : G ≤ 20 := by omega
  have HG : Hid (∀ k, k < G → ∃ x, bs[k]? = some x) := fun k hk => ⟨_, List.getElem?_eq_getElem (by omega)⟩
  have HH := (show Hid _ from And.intro hl (And.intro hb (And.intro hE (And.intro hT S))))
  clear hl hb hE hT S hG hlc1 hlc2
  go_enter Tryz.func5, Tryz.ntmps5
  go_wp2_with fail
  refine haw.mono ?_
  rintro e w1 ⟨rfl, hb1⟩
  have hsp := HH.out.2.2.2.2.spec w1
  have H1 := (show Hid _ from hb1)
  clear haw hb1
  go_wp2_with fail
  refine hsp.mono ?_
  rintro e w2 ⟨rfl, hb2⟩
  obtain ⟨W3, hW3⟩ : ∃ W, w2.alloc (.cells #[.string nm, .string path, .bool uu] 23) = W := ⟨_, rfl⟩
  obtain ⟨hb3, r3⟩ := box3 hW3
  obtain ⟨hl, hb, hE, hT, -⟩ := HH.out
  have hB3 := (H1.out.trans (hb2.mono H1.out.size)).trans (hb3.mono (Nat.le_trans H1.out.size hb2.size))
  have hfil := Filled_any _ ls W3 (hl.below hB3) (hT.below hB3)
  obtain ⟨B, hBd⟩ : ∃ B, W3.heap.size = B := ⟨_, rfl⟩
  obtain ⟨q, hq⟩ : ∃ q, min 30 ls.length = q := ⟨_, rfl⟩
  rw [hBd, hq] at hfil
  have H3 := (show Hid _ from And.intro hB3 (And.intro r3 (And.intro (hE.below hB3) (And.intro (hb.below hB3) hBd))))
  clear hsp hb2 hb3 r3 hl hb hE hT hB3 H1 hBd hq
  go_wp2_with fail
  clear hW3
  refine hfil.mono ?_
  rintro e w4 ⟨M, rs4, rfl, h4, f4⟩
  have H4 := (show Hid _ from And.intro h4 f4.nice)
  clear hfil h4 f4
  go_wp2_with fail
  go_loopg [11, 39] G (fun gg _ i wr => ∃ (k : Nat) (rs : List Rec), k ≤ G ∧ G - k ≤ gg ∧ i = .int .i64 k ∧ Aside (Lop B M W3 wr rs q q ∧ ∀ r ∈ rs, Nice 3 r.2))
  case atStart => exact ⟨0, rs4, Nat.zero_le _, by omega, rfl, H4.out.1, H4.out.2⟩
  case round =>
    obtain ⟨k, rs, hk, hgg, rfl, A⟩ := hrel
    obtain ⟨hs, hn⟩ := A.out
    by_cases hlt : k < G
    · obtain ⟨x, hx⟩ := HG.out k hlt
      obtain ⟨-, -, -, hby, -⟩ := H3.out
      obtain ⟨a', c', e', -, -, h6⟩ := hby.below hs.b
      simp only [Value.slice.injEq, true_and] at e'
      obtain ⟨rfl, rfl⟩ := e'
      obtain ⟨bb, oo, rfl, h7⟩ := h6 (fun e => by rw [e] at hx; simp at hx)
      have c0 := h7 k x hx
      obtain ⟨z, hz⟩ : ∃ z : Int, (x.toNat : Int) = z := ⟨_, rfl⟩
      rw [hz] at c0
      have hz0 : 0 ≤ z := by omega
      obtain ⟨y, hy⟩ : ∃ y, z % 32 = y := ⟨_, rfl⟩
      have zt : z.tmod 32 = y := by rw [Int.tmod_eq_emod_of_nonneg hz0]; exact hy
      have zc : IntKind.i64.wrap y = y := by rw [IntKind.wrap_i64]; omega
      have zw : IntKind.u8.wrap y = y := by rw [IntKind.wrap_u8]; omega
      have zwf : (Lit.int .i64 y).wf = true := wfK (by omega) (by omega)
      have zk : (k : Int) < (G : Int) := by omega
      obtain ⟨hM, g, hm, hg⟩ := hs.p
      have hd := DelH_any y wr hs.h
      obtain ⟨dd, hdd⟩ : ∃ d, (getR y rs).isSome = d := ⟨_, rfl⟩
      rw [hdd] at hd
      have HK := (show Hid _ from And.intro hs (And.intro hn (And.intro hM (And.intro hm hg))))
      clear hby h6 h7 hx hz hz0 hy hs hn hM hm hg hdd
      go_wp2_with fail
      refine hd.mono ?_
      rintro e w5 ⟨rfl, h5, hk5, hb5⟩
      obtain ⟨hs, hn, hM, hm, hg⟩ := HK.out
      have hm5 := map_kept hm hk5
      have H5 := (show Hid _ from And.intro h5 (And.intro hk5 (And.intro hb5 zwf)))
      clear hs hn hM hm hg hd h5 hk5 hb5 zwf c0
      go_wp2_with (first | (at_delete; refine wpList_mdel rfl _ _ 47 rfl 40 Tryz.underlying47 M q g rs.length rfl hm5 y H5.out.2.2.2 rfl ?_; intro w6 hm6 hg6; have H6 := (show Hid _ from And.intro hm6 (And.intro hg6 (cells_put hm5 hg6))); clear hm6 hg6 hm5) | fail)
      go_roundg (G - (k + 1))
      case measure => omega
      case rel =>
        obtain ⟨hs, hn, hM, hm, hg⟩ := HK.out
        obtain ⟨h5, hk5, hb5, -⟩ := H5.out
        obtain ⟨hm6, hg6, hc6⟩ := H6.out
        have hB := H3.out.2.2.2.2
        have hbw := hs.b.trans (hb5.mono (Nat.le_of_eq hB))
        exact ⟨k + 1, delR y rs, Nat.succ_le_of_lt hlt, Nat.le_refl _, by go_num, ⟨h5.cells hc6, ⟨hM, _, hm6.alter (fun _ => rfl) (by rw [hg.isSome, len_delR]), Lp.del ((hg.kept hk5).cells hc6) (fun j => get_delR hs.h.2.1)⟩, hbw.grown hg6 hbw.size (fun k e => by cases e; rw [hB]; exact hM)⟩, nice_del hn y⟩
    · have zk : ¬ (k : Int) < (G : Int) := by omega
      obtain ⟨hB3, r3, hE3, -, hBd⟩ := H3.out
      have hSp := HH.out.2.2.2.2
      have s3 := (hs.b.block _ (lt_of_heap r3)).trans r3
      have hEr := hE3.below hs.b
      have hof := fun (W' : World) (h : Below wr.heap.size wr W') => hSp.of _ B rs _ W' (hEr.below h) (hs.h.below h) hn
      obtain ⟨hM, g, hm, hg⟩ := hs.p
      have hlof := fun (W' : World) (h : Below wr.heap.size wr W') => hSp.lof M q g rs _ W' (map_kept hm (below_kept h)) (hg.kept (below_kept h)) hs.h.2.1 hn (by have := hs.h.2.2.2.2; omega)
      have hln := ofP_len500 ps hs.h
      obtain ⟨L, hL⟩ : ∃ L, ofP ps rs = L := ⟨_, rfl⟩
      rw [hL] at hof hlof hln
      have hsame := fun (B1 B2 : Nat) (va vb : Value) (W' : World) (ha : W'.ownsRow B1 58 2 va L.length (encEns L)) (hb : W'.ownsRow B2 58 2 vb L.length (encEns L)) => (by have := SameE_any L L B1 B2 va vb W' ha hb (by omega); rwa [decide_eq_true rfl] at this : Calls Tryz.prog 21 #[va, vb] W' fun r w' => r = .returned (.bool true) ∧ Below W'.heap.size W' w')
      have P0 := fun (w' : World) (h : Below wr.heap.size wr w') => (row3 ((h.block _ (lt_of_heap s3)).trans s3)).1
      have P1 := fun (w' : World) (h : Below wr.heap.size wr w') => (row3 ((h.block _ (lt_of_heap s3)).trans s3)).2.1
      have P2 := fun (w' : World) (h : Below wr.heap.size wr w') => (row3 ((h.block _ (lt_of_heap s3)).trans s3)).2.2.1
      have HB := (show Hid _ from And.intro (hB3.trans (hs.b.mono hB3.size)) hsame)
      clear hB3 r3 hE3 hBd hSp s3 hEr hM hm hg hln hL hsame hs hn
      go_wp2_with fail
      have h0 : (fun w' : World => Below wr.heap.size wr w') wr.drew := (Below.refl _ _).drew
      refine wp_region_held (S := fun w' => Below wr.heap.size wr w') mixedE ?_
      refine wpAnyH_take (i := 0) (oi := ⟨_, _, _, _, _, _⟩) (v := ?v1) rfl (by kernel_rfl) (by kernel_rfl) (by kernel_rfl) (fun _ _ _ h => h) (Or.inl ⟨by rfl, ?hy1⟩) h0 ?rest1
      case hy1 => (intro w hSw; (try dsimp only at hSw); go_simp; try with_reducible rfl)
      simp only [Act.put, List.setIfInBounds_toArray, List.set_cons_zero, List.set_cons_succ]
      refine wpAnyH_take (i := 1) (oi := ⟨_, _, _, _, _, _⟩) (v := ?v2) rfl (by kernel_rfl) (by kernel_rfl) (by kernel_rfl) (fun _ _ _ h => h) (Or.inl ⟨by rfl, ?hy2⟩) h0 ?rest2
      case hy2 => (intro w hSw; (try dsimp only at hSw); go_simp; try with_reducible rfl)
      simp only [Act.put, List.setIfInBounds_toArray, List.set_cons_zero, List.set_cons_succ]
      refine wpAnyH_take (i := 3) (oi := ⟨_, _, _, _, _, _⟩) (v := ?v3) rfl (by kernel_rfl) (by kernel_rfl) (by kernel_rfl) (fun _ _ _ h => h) (Or.inl ⟨by rfl, ?hy3⟩) h0 ?rest3
      case hy3 => (intro w hSw; (try dsimp only at hSw); go_simp; try with_reducible rfl)
      simp only [Act.put, List.setIfInBounds_toArray, List.set_cons_zero, List.set_cons_succ]
      refine wpAnyH_take (i := 4) (oi := ⟨_, _, _, _, _, _⟩) (v := ?v4) rfl (by kernel_rfl) (by kernel_rfl) (by kernel_rfl) (fun _ _ _ h => h) (Or.inl ⟨by rfl, ?hy4⟩) h0 ?rest4
      case hy4 => (intro w hSw; (try dsimp only at hSw); go_simp; try with_reducible rfl)
      simp only [Act.put, List.setIfInBounds_toArray, List.set_cons_zero, List.set_cons_succ]
      clear P0 P1 P2
      refine wpAnyH_ready (rs := [2]) (by kernel_rfl) (by simp) ?_
      refine AllReadyH.cons (o := ⟨_, _, _, _, _, _⟩) rfl (fun K hK => ?_) AllReadyH.nil
      go_simp
      refine (hof wr.drew h0).mono ?_
      rintro e w1' ⟨va, rfl, how1⟩
      have h1 : Below wr.heap.size wr w1' := Below.drop_drewE how1.below
      refine hK.out _ _ h1 (fun hHeld => ?_)
      clear hK K hHeld
      try simp only [Act.put, List.setIfInBounds_toArray, List.set_cons_zero, List.set_cons_succ]
      refine wpAnyH_ready (rs := [5]) (by kernel_rfl) (by simp) ?_
      refine AllReadyH.cons (o := ⟨_, _, _, _, _, _⟩) rfl (fun K hK => ?_) AllReadyH.nil
      go_simp
      refine (hlof _ h1).mono ?_
      rintro e w2' ⟨vb, rfl, how2⟩
      have h2 : Below wr.heap.size wr w2' := h1.trans (how2.below.mono h1.size)
      refine hK.out _ _ h2 (fun hHeld => ?_)
      clear hK K hHeld
      try simp only [Act.put, List.setIfInBounds_toArray, List.set_cons_zero, List.set_cons_succ]
      refine wpAnyH_ready (rs := [6]) (by kernel_rfl) (by simp) ?_
      refine AllReadyH.cons (o := ⟨_, _, _, _, _, _⟩) rfl (fun K hK => ?_) AllReadyH.nil
      go_simp
      refine (HB.out.2 _ _ va vb w2' (how1.same how2.below).own how2.own).mono ?_
      rintro e w3' ⟨rfl, hb3'⟩
      have h3 : Below wr.heap.size wr w3' := h2.trans (hb3'.mono h2.size)
      refine hK.out _ _ h3 (fun hHeld => ?_)
      clear hK K hHeld
      try simp only [Act.put, List.setIfInBounds_toArray, List.set_cons_zero, List.set_cons_succ]
      refine wpAnyH_ready (rs := [7]) (by kernel_rfl) (by simp) ?_
      refine AllReadyH.cons (o := ⟨_, _, _, _, _, _⟩) rfl (fun K hK => ?_) AllReadyH.nil
      go_simp
      refine hK.out _ _ h3 (fun hHeld => ?_)
      clear hK K hHeld
      try simp only [Act.put, List.setIfInBounds_toArray, List.set_cons_zero, List.set_cons_succ]
      have HF := (show Hid _ from h3)
      clear h0 h1 h2 h3 how1 how2 hb3' hof hlof
      refine wpAnyH_done (by kernel_rfl) ?_ _
      go_wp2
      go_ret
      exact ⟨rfl, HB.out.1.trans (HF.out.mono HB.out.1.size)⟩
end Go.Proofs.YtfpkkobclkdniaaGreatDoor
