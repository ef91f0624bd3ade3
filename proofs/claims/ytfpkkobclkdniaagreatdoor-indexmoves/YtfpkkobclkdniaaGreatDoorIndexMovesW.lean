/-
  IndexMoves's walk. No conditions beyond those stated.
-/
import Derived.Test.YtfpkkobclkdniaaGreatDoorU24
import Derived.Test.YtfpkkobclkdniaaGreatDoorIFilled
import Derived.Test.YtfpkkobclkdniaaGreatDoorBSame
namespace Go.Proofs.YtfpkkobclkdniaaGreatDoor
open Go.RowKit

theorem own_kept {W W' : World} {base n : Nat} {v : Value} {xs : List Value} (h : W.ownsRow base 58 2 v n xs) (k : Kept W W') : W'.ownsRow base 58 2 v n xs :=
  ⟨h.1, h.2.imp id fun ⟨g, cap, cur, hv, h1, hg, r⟩ => ⟨g, cap, cur, hv, h1, k g _ hg (fun _ e => by cases e) (fun _ e => by cases e), r⟩⟩
set_option maxRecDepth 100000 in
set_option maxHeartbeats 16000000 in
theorem IndexMoves_walk (n : Int) (h0 : 0 ≤ n) (v1 : Value) (ls : List (List UInt8)) (c2 : Int) (hc2 : 0 ≤ c2 ∧ c2 < 256) (v3 : Value) (bs : List UInt8) (w : World) (hl : BssAt w v1 ls) (hb : BytesAt w v3 bs) (hE : PEnv w ∧ Tabs w) :
    Calls Tryz.prog 8 #[.int .u8 n, v1, .int .u8 c2, v3] w fun e w' => e = .returned (.bool true) ∧ Below w.heap.size w w' := by
  obtain ⟨hE, hT⟩ := hE
  obtain ⟨nm, path, uu, ps, S⟩ := specK n h0 false
  have haw := iawake_true w hE
  obtain ⟨la, lcap, rfl, -, -⟩ := hl.slice
  obtain ⟨ba, bcap, rfl, -⟩ := id hb
  have HH := (show Hid _ from And.intro hl (And.intro hb (And.intro hE (And.intro hT (And.intro S hc2)))))
  clear hl hb hE hT S hc2
  go_enter Tryz.func8, Tryz.ntmps8
  go_wp2_with fail
  refine haw.mono ?_
  rintro e w1 ⟨rfl, hb1⟩
  have hsp := HH.out.2.2.2.2.1.spec w1
  have H1 := (show Hid _ from hb1)
  clear haw hb1
  go_wp2_with fail
  refine hsp.mono ?_
  rintro e w2 ⟨rfl, hb2⟩
  obtain ⟨W3, hW3⟩ : ∃ W, w2.alloc (.cells #[.string nm, .string path, .bool uu] 23) = W := ⟨_, rfl⟩
  obtain ⟨hb3, r3⟩ := box3 hW3
  obtain ⟨hl, hb, hE, hT, -⟩ := HH.out
  have hB3 := (H1.out.trans (hb2.mono H1.out.size)).trans (hb3.mono (Nat.le_trans H1.out.size hb2.size))
  have hfil := Filled_any _ ls W3 (hl.below hB3) (hT.below hB3)
  obtain ⟨B, hBd⟩ : ∃ B, W3.heap.size = B := ⟨_, rfl⟩
  obtain ⟨q, hq⟩ : ∃ q, min 30 ls.length = q := ⟨_, rfl⟩
  rw [hBd, hq] at hfil
  have H3 := (show Hid _ from And.intro hB3 (And.intro r3 (And.intro (hE.below hB3) (And.intro (hb.below hB3) (And.intro (hT.below hB3) (And.intro hBd (show q ≤ 30 by omega)))))))
  clear hsp hb2 hb3 r3 hl hb hE hT hB3 H1 hBd hq
  go_wp2_with fail
  clear hW3
  refine hfil.mono ?_
  rintro e w4 ⟨M, rs, rfl, h4, f4⟩
  obtain ⟨Q, hQ⟩ : ∃ Q : Int, (rs.length : Int) = Q := ⟨_, rfl⟩
  have hlen := LenH_any w4 h4.h
  rw [hQ] at hlen
  have H4 := (show Hid _ from And.intro h4 (And.intro f4 hQ))
  clear hfil h4 f4 hQ
  by_cases hq0 : Q = 0
  · subst hq0
    go_wp2_with fail
    refine hlen.mono ?_
    rintro e w' ⟨rfl, rfl⟩
    clear hlen
    go_wp2_with fail
    go_ret
    exact ⟨rfl, H3.out.1.trans (H4.out.1.b.mono H3.out.1.size)⟩
  · obtain ⟨y, hy⟩ : ∃ y, c2 % Q = y := ⟨_, rfl⟩
    have hQ30 : 0 < Q ∧ Q ≤ 30 := by
      have h1 := H4.out.2.2
      have h2 := H4.out.2.1.len
      have h3 := H3.out.2.2.2.2.2.2
      omega
    have hy0 : 0 ≤ y := by rw [← hy]; exact Int.emod_nonneg _ (by omega)
    have hy1 : y < Q := by rw [← hy]; exact Int.emod_lt_of_pos _ (by omega)
    obtain ⟨kk, hkk⟩ : ∃ kk, 1 + y = kk := ⟨_, rfl⟩
    have hc0 := HH.out.2.2.2.2.2
    have z0 : IntKind.i64.wrap c2 = c2 := wrap_small (by omega) (by omega)
    have zt : c2.tmod Q = y := by rw [Int.tmod_eq_emod_of_nonneg hc0.1]; exact hy
    have zy : IntKind.i64.wrap y = y := wrap_small (by omega) (by omega)
    have zy2 : wrap64 y = y := wrap64_small (by omega) (by omega)
    have zk : wrap64 (1 + y) = kk := by rw [← hkk]; exact wrap64_small (by omega) (by omega)
    have zk2 : IntKind.i64.wrap (1 + y) = kk := by rw [← hkk]; exact wrap_small (by omega) (by omega)
    have hex : (getR kk rs).isSome = true := H4.out.2.1.all kk (by omega) (by
      have h1 := H4.out.2.2
      have h2 := H4.out.2.1.len
      omega)
    obtain ⟨v, hv⟩ := Option.isSome_iff_exists.1 hex
    have hget := GetH_any kk w4 H4.out.1.h
    have HV := (show Hid _ from hv)
    rw [hv] at hget
    have hget' : Calls Tryz.prog 26 #[.pointer (some ⟨B, 0, none⟩), .int .i64 kk] w4 fun e w' => ∃ l f, e = .returned (.tuple #[.agg #[.int .i64 v.kind, .int .i64 v.num, .string v.text, l, f], .bool true]) ∧ Lies 5 w' v l f ∧ Below w4.heap.size w4 w' := hget
    clear hy hQ30 hy0 hy1 hkk hc0 hex hv hget
    go_wp2_with fail
    refine hlen.mono ?_
    rintro e w' ⟨rfl, rfl⟩
    go_wp2_with fail
    refine hlen.mono ?_
    rintro e w' ⟨rfl, rfl⟩
    clear hlen
    go_wp2_with fail
    refine hget'.mono ?_
    rintro e w5 ⟨lv, fv, rfl, hlv, hb5⟩
    clear z0 zt zy zy2 zk zk2 hget'
    obtain ⟨a1, c1, a2, c2', rfl, rfl⟩ := hlv.slices
    obtain ⟨W6, hW6⟩ : ∃ W, w5.alloc (.cells #[.int .i64 v.kind, .int .i64 v.num, .string v.text, .slice a1 v.list.length c1, .slice a2 v.fields.length c2'] 40) = W := ⟨_, rfl⟩
    obtain ⟨hb6, r6⟩ := box5 hW6
    obtain ⟨hB3, r3, hE3, hby3, hT3, hBd, -⟩ := H3.out
    obtain ⟨h4, f4, -⟩ := H4.out
    have hb46 := hb5.trans (hb6.mono hb5.size)
    have h6 := h4.below hb46
    have hdoc := Doc_any _ bs W6 (hby3.below h6.b) (hT3.below h6.b)
    have H6 := (show Hid _ from And.intro h6 (And.intro r6 (hlv.below hb6)))
    clear hlv hb5 hb6 r6 hB3 r3 hE3 hby3 hT3 hBd h4 f4 hb46 h6
    go_wp2_with fail
    clear hW6
    refine hdoc.mono ?_
    rintro e w7 ⟨x, lx, fx, rfl, ⟨hnx, hrx, hb7⟩, -⟩
    obtain ⟨d1, e1, d2, e2, rfl, rfl⟩ := hrx.slices
    obtain ⟨W8, hW8⟩ : ∃ W, w7.alloc (.cells #[.int .i64 x.kind, .int .i64 x.num, .string x.text, .slice d1 x.list.length e1, .slice d2 x.fields.length e2] 40) = W := ⟨_, rfl⟩
    obtain ⟨hb8, r8⟩ := box5 hW8
    obtain ⟨h6, r6, hl6⟩ := H6.out
    have hb68 := hb7.trans (hb8.mono hb7.size)
    have h8 := h6.below hb68
    obtain ⟨hB3, r3, hE3, -⟩ := H3.out
    have s8 := (h8.b.block _ (lt_of_heap r3)).trans r3
    have p8 := (hb68.block _ (lt_of_heap r6)).trans r6
    have hof := HH.out.2.2.2.2.1.of _ B rs _ W8 (hE3.below h8.b) h8.h H4.out.2.1.nice
    obtain ⟨b0, b1, b2, bf⟩ := row3 s8
    have hpl := ofP_len ps rs
    have hrl := h8.h.2.2.2.2
    obtain ⟨L, hL⟩ : ∃ L, ofP ps rs = L := ⟨_, rfl⟩
    rw [hL] at hof
    have H8 := (show Hid _ from And.intro h8 (And.intro s8 (And.intro p8 (And.intro (hl6.below hb68) (And.intro r8 (And.intro ((Rep.lies hrx).below hb8) (And.intro hnx (And.intro hL (show L.length ≤ 500 by rw [← hL]; omega)))))))))
    clear hnx hrx hb7 hb8 r8 h6 r6 hl6 hb68 h8 hB3 r3 hE3 s8 p8 hL hdoc H6 hpl hrl
    go_wp2_with fail
    clear hW8
    refine hof.mono ?_
    rintro e w9 ⟨vo, rfl, how9⟩
    obtain ⟨oa, oc, rfl⟩ := how9.slice
    clear hof b0 b1 b2 bf
    obtain ⟨h8, s8, p8, hl8, r8, hlx8, hnx, hL, hLn⟩ := H8.out
    have hb9 := how9.below
    have h9 := h8.below hb9
    have s9 := (hb9.block _ (lt_of_heap s8)).trans s8
    have p9 := (hb9.block _ (lt_of_heap p8)).trans p8
    have r9 := (hb9.block _ (lt_of_heap r8)).trans r8
    obtain ⟨b0, b1, b2, bf⟩ := row3 s9
    obtain ⟨x0, x1, x2, x3, x4, xf⟩ := row5 p9
    have hNv : Nice 3 v := nice_get H4.out.2.1.nice HV.out
    have hk := HH.out.2.2.2.2.1.key 5 v _ _ w9 (H3.out.2.2.1.below h9.b) (hl8.below hb9) hNv
    obtain ⟨o1, ho1⟩ : ∃ o, keyP ps v = o := ⟨_, rfl⟩
    rw [ho1] at hk
    have H9 := (show Hid _ from And.intro h9 (And.intro s9 (And.intro r9 (And.intro (hlx8.below hb9) (And.intro hnx (And.intro how9.own (And.intro hL (And.intro hLn ho1))))))))
    clear h8 s8 p8 hl8 r8 hlx8 hnx hL hLn hb9 h9 s9 p9 r9 hNv ho1 how9 H8
    cases o1 with
    | none =>
      go_wp2_with fail
      refine hk.mono ?_
      rintro e w10 ⟨he, hb10⟩
      obtain rfl : e = .returned (.tuple #[.string ⟨#[]⟩, .bool false]) := he
      clear hk b0 b1 b2 bf x0 x1 x2 x3 x4 xf
      obtain ⟨h9, s9, r9, hlx9, hnx, how, hL, hLn, ho1⟩ := H9.out
      have h10 := h9.below hb10
      have s10 := (hb10.block _ (lt_of_heap s9)).trans s9
      have r10 := (hb10.block _ (lt_of_heap r9)).trans r9
      have hlx10 := hlx9.below hb10
      obtain ⟨L1, hL1⟩ : ∃ L1, offE (keyP ps v) kk (ofP ps rs) = L1 := ⟨_, rfl⟩
      have e1 : L = L1 := by rw [← hL1, ho1, hL]; rfl
      subst e1
      have how10 : w10.ownsRow W8.heap.size 58 2 (.slice oa L.length oc) L.length (encEns L) := own_keep how fun a ha => hb10.block a (own_lt how ha)
      clear h9 s9 r9 hlx9 how hL ho1 hb10 H9
      obtain ⟨b0, b1, b2, bf⟩ := row3 s10
      obtain ⟨x0, x1, x2, x3, x4, xf⟩ := row5 r10
      have hk := HH.out.2.2.2.2.1.key 3 x _ _ w10 (H3.out.2.2.1.below h10.b) hlx10 hnx
      obtain ⟨o2, ho2⟩ : ∃ o, keyP ps x = o := ⟨_, rfl⟩
      rw [ho2] at hk
      have H11 := (show Hid _ from And.intro h10 (And.intro s10 (And.intro r10 (And.intro hlx10 (And.intro hnx (And.intro how10 (And.intro hL1 (And.intro hLn ho2))))))))
      clear h10 s10 r10 hlx10 hnx how10 hL1 hLn ho2
      cases o2 with
      | none =>
        go_wp2_with fail
        refine hk.mono ?_
        rintro e w11 ⟨he, hb11⟩
        obtain rfl : e = .returned (.tuple #[.string ⟨#[]⟩, .bool false]) := he
        clear hk b0 b1 b2 bf x0 x1 x2 x3 x4 xf
        obtain ⟨h10, s10, r10, hlx10, hnx, how, hL1, hLn, ho2⟩ := H11.out
        have h11 := h10.below hb11
        have s11 := (hb11.block _ (lt_of_heap s10)).trans s10
        have r11 := (hb11.block _ (lt_of_heap r10)).trans r10
        have hlx11 := hlx10.below hb11
        have e2 : onE (keyP ps x) kk (offE (keyP ps v) kk (ofP ps rs)) = L := by rw [ho2, hL1]; rfl
        have how11 : w11.ownsRow W8.heap.size 58 2 (.slice oa L.length oc) L.length (encEns L) := own_keep how fun a ha => hb11.block a (own_lt how ha)
        clear h10 s10 r10 hlx10 how hL1 ho2 hb11 H11
        obtain ⟨x0, x1, x2, x3, x4, xf⟩ := row5 r11
        have hset := SetH_any kk x _ _ w11 h11.h hlx11
        obtain ⟨dd, hdd⟩ : ∃ d, (getR kk rs).isSome = d := ⟨_, rfl⟩
        rw [hdd] at hset
        have H13 := (show Hid _ from And.intro h11 (And.intro s11 (And.intro hnx (And.intro how11 (And.intro e2 hLn)))))
        clear h11 s11 r11 hlx11 hnx how11 e2 hLn hdd
        go_wp2_with fail
        refine hset.mono ?_
        rintro e w12 ⟨rfl, h12, hk12, hb12⟩
        clear hset x0 x1 x2 x3 x4 xf
        obtain ⟨h11, s11, hnx, how11, e2, hLn⟩ := H13.out
        have hBd := H3.out.2.2.2.2.2.1
        have hB12 : Below W3.heap.size W3 w12 := h11.b.trans (hb12.mono (Nat.le_of_eq hBd))
        have s12 := hk12 _ _ s11 (fun _ e => by cases e) (fun _ e => by cases e)
        have how12 := own_kept how11 hk12
        obtain ⟨b0, b1, b2, bf⟩ := row3 s12
        have hof := HH.out.2.2.2.2.1.of _ B _ _ w12 (H3.out.2.2.1.below hB12) h12 (nice_set h11.h.2.1 H4.out.2.1.nice hnx)
        rw [← move_is h11.h.2.1 HV.out, e2] at hof
        have H14 := (show Hid _ from And.intro hB12 (And.intro how12 hLn))
        clear h11 s11 hnx how11 e2 hLn h12 hk12 hb12 hBd hB12 s12 how12 H13
        go_wp2_with fail
        refine hof.mono ?_
        rintro e w13 ⟨v13, rfl, how13⟩
        obtain ⟨oa3, oc3, rfl⟩ := how13.slice
        clear hof b0 b1 b2 bf
        obtain ⟨hB12, how12, hLn⟩ := H14.out
        have hsame := SameE_any L L _ _ _ (.slice oa L.length oc) w13 how13.own (how13.below.size |> fun _ => own_keep how12 fun a ha => how13.below.block a (own_lt how12 ha)) (by omega)
        rw [decide_eq_true rfl] at hsame
        have H15 := (show Hid _ from hB12.trans (how13.below.mono hB12.size))
        clear hB12 how12 hLn how13 H14
        go_wp2_with fail
        refine hsame.mono ?_
        rintro e w14 ⟨rfl, hb14⟩
        have H16 := (show Hid _ from hb14)
        clear hsame hb14
        go_wp2
        go_ret
        have hw := H15.out.trans (H16.out.mono H15.out.size)
        exact ⟨rfl, H3.out.1.trans (hw.mono H3.out.1.size)⟩
      | some k2 =>
        go_wp2_with fail
        refine hk.mono ?_
        rintro e w11' ⟨he, hb11⟩
        obtain rfl : e = .returned (.tuple #[.string k2, .bool true]) := he
        clear hk b0 b1 b2 bf x0 x1 x2 x3 x4 xf
        have hwi := With_any L (.slice oa L.length oc) (W8.heap.size) (k2, kk) true w11' (own_keep H11.out.2.2.2.2.2.1 fun a ha => hb11.block a (own_lt H11.out.2.2.2.2.2.1 ha)) (by have := H11.out.2.2.2.2.2.2.2.1; omega)
        obtain ⟨z, hz⟩ : ∃ z, (hasE (k2, kk) L != true) = z := ⟨_, rfl⟩
        rw [hz] at hwi
        have H12 := (show Hid _ from hb11)
        clear hz hb11
        go_wp2_with fail
        refine hwi.mono ?_
        rintro e w11 ⟨v11, rfl, how⟩
        obtain ⟨oa2, oc2, rfl⟩ := how.slice
        clear hwi
        obtain ⟨h10, s10, r10, hlx10, hnx, -, hL1, hLn, ho2⟩ := H11.out
        have hb11 := H12.out.trans (how.below.mono H12.out.size)
        have h11 := h10.below hb11
        have s11 := (hb11.block _ (lt_of_heap s10)).trans s10
        have r11 := (hb11.block _ (lt_of_heap r10)).trans r10
        have hlx11 := hlx10.below hb11
        obtain ⟨L2, hL2⟩ : ∃ L2, withL (k2, kk) (!true) L = L2 := ⟨_, rfl⟩
        have e2 : onE (keyP ps x) kk (offE (keyP ps v) kk (ofP ps rs)) = L2 := by rw [← hL2, ho2, hL1]; rfl
        rw [hL2] at how ⊢
        have hLn : L2.length ≤ 501 := by
          have h1 := len_on (keyP ps x) kk (offE (keyP ps v) kk (ofP ps rs))
          rw [e2, hL1] at h1
          omega
        have how11 := how.own
        clear h10 s10 r10 hlx10 hL1 ho2 hb11 how hL2 H11 H12
        obtain ⟨x0, x1, x2, x3, x4, xf⟩ := row5 r11
        have hset := SetH_any kk x _ _ w11 h11.h hlx11
        obtain ⟨dd, hdd⟩ : ∃ d, (getR kk rs).isSome = d := ⟨_, rfl⟩
        rw [hdd] at hset
        have H13 := (show Hid _ from And.intro h11 (And.intro s11 (And.intro hnx (And.intro how11 (And.intro e2 hLn)))))
        clear h11 s11 r11 hlx11 hnx how11 e2 hLn hdd
        go_wp2_with fail
        refine hset.mono ?_
        rintro e w12 ⟨rfl, h12, hk12, hb12⟩
        clear hset x0 x1 x2 x3 x4 xf
        obtain ⟨h11, s11, hnx, how11, e2, hLn⟩ := H13.out
        have hBd := H3.out.2.2.2.2.2.1
        have hB12 : Below W3.heap.size W3 w12 := h11.b.trans (hb12.mono (Nat.le_of_eq hBd))
        have s12 := hk12 _ _ s11 (fun _ e => by cases e) (fun _ e => by cases e)
        have how12 := own_kept how11 hk12
        obtain ⟨b0, b1, b2, bf⟩ := row3 s12
        have hof := HH.out.2.2.2.2.1.of _ B _ _ w12 (H3.out.2.2.1.below hB12) h12 (nice_set h11.h.2.1 H4.out.2.1.nice hnx)
        rw [← move_is h11.h.2.1 HV.out, e2] at hof
        have H14 := (show Hid _ from And.intro hB12 (And.intro how12 hLn))
        clear h11 s11 hnx how11 e2 hLn h12 hk12 hb12 hBd hB12 s12 how12 H13
        go_wp2_with fail
        refine hof.mono ?_
        rintro e w13 ⟨v13, rfl, how13⟩
        obtain ⟨oa3, oc3, rfl⟩ := how13.slice
        clear hof b0 b1 b2 bf
        obtain ⟨hB12, how12, hLn⟩ := H14.out
        have hsame := SameE_any L2 L2 _ _ _ (.slice oa2 L2.length oc2) w13 how13.own (how13.below.size |> fun _ => own_keep how12 fun a ha => how13.below.block a (own_lt how12 ha)) (by omega)
        rw [decide_eq_true rfl] at hsame
        have H15 := (show Hid _ from hB12.trans (how13.below.mono hB12.size))
        clear hB12 how12 hLn how13 H14
        go_wp2_with fail
        refine hsame.mono ?_
        rintro e w14 ⟨rfl, hb14⟩
        have H16 := (show Hid _ from hb14)
        clear hsame hb14
        go_wp2
        go_ret
        have hw := H15.out.trans (H16.out.mono H15.out.size)
        exact ⟨rfl, H3.out.1.trans (hw.mono H3.out.1.size)⟩
    | some k1 =>
      go_wp2_with fail
      refine hk.mono ?_
      rintro e w9' ⟨he, hb10⟩
      obtain rfl : e = .returned (.tuple #[.string k1, .bool true]) := he
      clear hk b0 b1 b2 bf x0 x1 x2 x3 x4 xf
      have hwi := With_any L (.slice oa L.length oc) W8.heap.size (k1, kk) false w9' (own_keep H9.out.2.2.2.2.2.1 fun a ha => hb10.block a (own_lt H9.out.2.2.2.2.2.1 ha)) (by have := H9.out.2.2.2.2.2.2.2.1; omega)
      obtain ⟨z, hz⟩ : ∃ z, (hasE (k1, kk) L != false) = z := ⟨_, rfl⟩
      rw [hz] at hwi
      have H10 := (show Hid _ from hb10)
      clear hz hb10
      go_wp2_with fail
      refine hwi.mono ?_
      rintro e w10 ⟨v10, rfl, how⟩
      obtain ⟨oa', oc', rfl⟩ := how.slice
      clear hwi
      obtain ⟨h9, s9, r9, hlx9, hnx, -, hL, hLn, ho1⟩ := H9.out
      have hb10 := H10.out.trans (how.below.mono H10.out.size)
      have h10 := h9.below hb10
      have s10 := (hb10.block _ (lt_of_heap s9)).trans s9
      have r10 := (hb10.block _ (lt_of_heap r9)).trans r9
      have hlx10 := hlx9.below hb10
      obtain ⟨L1, hL1⟩ : ∃ L1, offE (keyP ps v) kk (ofP ps rs) = L1 := ⟨_, rfl⟩
      have e1 : withL (k1, kk) (!false) L = L1 := by rw [← hL1, ho1, hL]; rfl
      rw [e1] at how ⊢
      have hLn : L1.length ≤ 500 := by
        have h1 := len_off (keyP ps v) kk (ofP ps rs)
        rw [hL1, hL] at h1
        omega
      have how10 := how.own
      clear h9 s9 r9 hlx9 hL ho1 hb10 how e1 H9 H10
      obtain ⟨b0, b1, b2, bf⟩ := row3 s10
      obtain ⟨x0, x1, x2, x3, x4, xf⟩ := row5 r10
      have hk := HH.out.2.2.2.2.1.key 3 x _ _ w10 (H3.out.2.2.1.below h10.b) hlx10 hnx
      obtain ⟨o2, ho2⟩ : ∃ o, keyP ps x = o := ⟨_, rfl⟩
      rw [ho2] at hk
      have H11 := (show Hid _ from And.intro h10 (And.intro s10 (And.intro r10 (And.intro hlx10 (And.intro hnx (And.intro how10 (And.intro hL1 (And.intro hLn ho2))))))))
      clear h10 s10 r10 hlx10 hnx how10 hL1 hLn ho2
      cases o2 with
      | none =>
        go_wp2_with fail
        refine hk.mono ?_
        rintro e w11 ⟨he, hb11⟩
        obtain rfl : e = .returned (.tuple #[.string ⟨#[]⟩, .bool false]) := he
        clear hk b0 b1 b2 bf x0 x1 x2 x3 x4 xf
        obtain ⟨h10, s10, r10, hlx10, hnx, how, hL1, hLn, ho2⟩ := H11.out
        have h11 := h10.below hb11
        have s11 := (hb11.block _ (lt_of_heap s10)).trans s10
        have r11 := (hb11.block _ (lt_of_heap r10)).trans r10
        have hlx11 := hlx10.below hb11
        have e2 : onE (keyP ps x) kk (offE (keyP ps v) kk (ofP ps rs)) = L1 := by rw [ho2, hL1]; rfl
        have how11 : w11.ownsRow (w9'.heap.size + 1) 58 2 (.slice oa' L1.length oc') L1.length (encEns L1) := own_keep how fun a ha => hb11.block a (own_lt how ha)
        clear h10 s10 r10 hlx10 how hL1 ho2 hb11 H11
        obtain ⟨x0, x1, x2, x3, x4, xf⟩ := row5 r11
        have hset := SetH_any kk x _ _ w11 h11.h hlx11
        obtain ⟨dd, hdd⟩ : ∃ d, (getR kk rs).isSome = d := ⟨_, rfl⟩
        rw [hdd] at hset
        have H13 := (show Hid _ from And.intro h11 (And.intro s11 (And.intro hnx (And.intro how11 (And.intro e2 hLn)))))
        clear h11 s11 r11 hlx11 hnx how11 e2 hLn hdd
        go_wp2_with fail
        refine hset.mono ?_
        rintro e w12 ⟨rfl, h12, hk12, hb12⟩
        clear hset x0 x1 x2 x3 x4 xf
        obtain ⟨h11, s11, hnx, how11, e2, hLn⟩ := H13.out
        have hBd := H3.out.2.2.2.2.2.1
        have hB12 : Below W3.heap.size W3 w12 := h11.b.trans (hb12.mono (Nat.le_of_eq hBd))
        have s12 := hk12 _ _ s11 (fun _ e => by cases e) (fun _ e => by cases e)
        have how12 := own_kept how11 hk12
        obtain ⟨b0, b1, b2, bf⟩ := row3 s12
        have hof := HH.out.2.2.2.2.1.of _ B _ _ w12 (H3.out.2.2.1.below hB12) h12 (nice_set h11.h.2.1 H4.out.2.1.nice hnx)
        rw [← move_is h11.h.2.1 HV.out, e2] at hof
        have H14 := (show Hid _ from And.intro hB12 (And.intro how12 hLn))
        clear h11 s11 hnx how11 e2 hLn h12 hk12 hb12 hBd hB12 s12 how12 H13
        go_wp2_with fail
        refine hof.mono ?_
        rintro e w13 ⟨v13, rfl, how13⟩
        obtain ⟨oa3, oc3, rfl⟩ := how13.slice
        clear hof b0 b1 b2 bf
        obtain ⟨hB12, how12, hLn⟩ := H14.out
        have hsame := SameE_any L1 L1 _ _ _ (.slice oa' L1.length oc') w13 how13.own (how13.below.size |> fun _ => own_keep how12 fun a ha => how13.below.block a (own_lt how12 ha)) (by omega)
        rw [decide_eq_true rfl] at hsame
        have H15 := (show Hid _ from hB12.trans (how13.below.mono hB12.size))
        clear hB12 how12 hLn how13 H14
        go_wp2_with fail
        refine hsame.mono ?_
        rintro e w14 ⟨rfl, hb14⟩
        have H16 := (show Hid _ from hb14)
        clear hsame hb14
        go_wp2
        go_ret
        have hw := H15.out.trans (H16.out.mono H15.out.size)
        exact ⟨rfl, H3.out.1.trans (hw.mono H3.out.1.size)⟩
      | some k2 =>
        go_wp2_with fail
        refine hk.mono ?_
        rintro e w11' ⟨he, hb11⟩
        obtain rfl : e = .returned (.tuple #[.string k2, .bool true]) := he
        clear hk b0 b1 b2 bf x0 x1 x2 x3 x4 xf
        have hwi := With_any L1 (.slice oa' L1.length oc') ((w9'.heap.size + 1)) (k2, kk) true w11' (own_keep H11.out.2.2.2.2.2.1 fun a ha => hb11.block a (own_lt H11.out.2.2.2.2.2.1 ha)) (by have := H11.out.2.2.2.2.2.2.2.1; omega)
        obtain ⟨z, hz⟩ : ∃ z, (hasE (k2, kk) L1 != true) = z := ⟨_, rfl⟩
        rw [hz] at hwi
        have H12 := (show Hid _ from hb11)
        clear hz hb11
        go_wp2_with fail
        refine hwi.mono ?_
        rintro e w11 ⟨v11, rfl, how⟩
        obtain ⟨oa2, oc2, rfl⟩ := how.slice
        clear hwi
        obtain ⟨h10, s10, r10, hlx10, hnx, -, hL1, hLn, ho2⟩ := H11.out
        have hb11 := H12.out.trans (how.below.mono H12.out.size)
        have h11 := h10.below hb11
        have s11 := (hb11.block _ (lt_of_heap s10)).trans s10
        have r11 := (hb11.block _ (lt_of_heap r10)).trans r10
        have hlx11 := hlx10.below hb11
        obtain ⟨L2, hL2⟩ : ∃ L2, withL (k2, kk) (!true) L1 = L2 := ⟨_, rfl⟩
        have e2 : onE (keyP ps x) kk (offE (keyP ps v) kk (ofP ps rs)) = L2 := by rw [← hL2, ho2, hL1]; rfl
        rw [hL2] at how ⊢
        have hLn : L2.length ≤ 501 := by
          have h1 := len_on (keyP ps x) kk (offE (keyP ps v) kk (ofP ps rs))
          rw [e2, hL1] at h1
          omega
        have how11 := how.own
        clear h10 s10 r10 hlx10 hL1 ho2 hb11 how hL2 H11 H12
        obtain ⟨x0, x1, x2, x3, x4, xf⟩ := row5 r11
        have hset := SetH_any kk x _ _ w11 h11.h hlx11
        obtain ⟨dd, hdd⟩ : ∃ d, (getR kk rs).isSome = d := ⟨_, rfl⟩
        rw [hdd] at hset
        have H13 := (show Hid _ from And.intro h11 (And.intro s11 (And.intro hnx (And.intro how11 (And.intro e2 hLn)))))
        clear h11 s11 r11 hlx11 hnx how11 e2 hLn hdd
        go_wp2_with fail
        refine hset.mono ?_
        rintro e w12 ⟨rfl, h12, hk12, hb12⟩
        clear hset x0 x1 x2 x3 x4 xf
        obtain ⟨h11, s11, hnx, how11, e2, hLn⟩ := H13.out
        have hBd := H3.out.2.2.2.2.2.1
        have hB12 : Below W3.heap.size W3 w12 := h11.b.trans (hb12.mono (Nat.le_of_eq hBd))
        have s12 := hk12 _ _ s11 (fun _ e => by cases e) (fun _ e => by cases e)
        have how12 := own_kept how11 hk12
        obtain ⟨b0, b1, b2, bf⟩ := row3 s12
        have hof := HH.out.2.2.2.2.1.of _ B _ _ w12 (H3.out.2.2.1.below hB12) h12 (nice_set h11.h.2.1 H4.out.2.1.nice hnx)
        rw [← move_is h11.h.2.1 HV.out, e2] at hof
        have H14 := (show Hid _ from And.intro hB12 (And.intro how12 hLn))
        clear h11 s11 hnx how11 e2 hLn h12 hk12 hb12 hBd hB12 s12 how12 H13
        go_wp2_with fail
        refine hof.mono ?_
        rintro e w13 ⟨v13, rfl, how13⟩
        obtain ⟨oa3, oc3, rfl⟩ := how13.slice
        clear hof b0 b1 b2 bf
        obtain ⟨hB12, how12, hLn⟩ := H14.out
        have hsame := SameE_any L2 L2 _ _ _ (.slice oa2 L2.length oc2) w13 how13.own (how13.below.size |> fun _ => own_keep how12 fun a ha => how13.below.block a (own_lt how12 ha)) (by omega)
        rw [decide_eq_true rfl] at hsame
        have H15 := (show Hid _ from hB12.trans (how13.below.mono hB12.size))
        clear hB12 how12 hLn how13 H14
        go_wp2_with fail
        refine hsame.mono ?_
        rintro e w14 ⟨rfl, hb14⟩
        have H16 := (show Hid _ from hb14)
        clear hsame hb14
        go_wp2
        go_ret
        have hw := H15.out.trans (H16.out.mono H15.out.size)
        exact ⟨rfl, H3.out.1.trans (hw.mono H3.out.1.size)⟩
end Go.Proofs.YtfpkkobclkdniaaGreatDoor
