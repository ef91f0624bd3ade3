/-
  TreeDrained's walk. No conditions beyond those stated.
-/
import Derived.Test.YtgnhillnikjnfaaBDrain
namespace Go.Proofs.Ytgnhillnikjnfaa
open Go.RowKit

theorem Boxed.of {w0 w : World} {T : Nat} {l : List En} (h : Tree w0 w T l) : Boxed w0 w T l (fun _ => False) :=
  ⟨_, h.1.tight, fun _a ha => ha, fun _ _ h => h, fun _ h => h.elim, h.2⟩
/-- what a box holds. -/
abbrev Bx (w : World) (X : Nat) (k : ByteArray) (i : Int) : Prop := w.heap[X]? = some (.cells #[.string k, .int .i64 i] 30 (0, 0))
theorem bx_below {w w' : World} {X : Nat} {k : ByteArray} {i : Int} (h : Bx w X k i) (hb : Below w.heap.size w w') : Bx w' X k i := (hb.block _ (lt_of_heap h)).trans h
theorem nodes_none {n : Nat} {t : Nd} (h : TopN n t) (hl : flatN n t = []) : nodesN n 1 t = [(1, 0, true)] := by
  cases n with
  | zero =>
    have e : t.es = [] := hl
    simp [nodesN, e]
  | succ n =>
    rcases h.2.2 with h0 | h0
    · cases h0
    · exact absurd hl (flat_ne h.1 h0)
theorem bx_other {w : World} {X Z : Nat} {k : ByteArray} {i : Int} {u v : Value} (h : Bx w X k i) (hne : X ≠ Z) : Bx ((w.setCell ⟨Z, 0, none⟩ u).setCell ⟨Z, 1, none⟩ v) X k i := by
  show (World.setCell _ _ _).heap[X]? = _
  rw [Go.Deep.blk_setCell_other _ _ _ _ (show X ≠ Z from hne), Go.Deep.blk_setCell_other _ _ _ _ (show X ≠ Z from hne)]
  exact h
set_option maxRecDepth 100000 in
set_option maxHeartbeats 8000000 in
theorem TreeDrained_walk (v0 : Value) (acts : List Ac) (down : Bool) (w : World) (ha : ActsAt w v0 acts) :
    Calls Try.prog 8 #[v0, .bool down] w fun e w' => e = .returned (.bool true) ∧ Below w.heap.size w w' := by
  obtain ⟨a, cap, rfl, hc1, hc2⟩ := ha.slice
  have hat := ha.take 100
  obtain ⟨N, hN⟩ : ∃ N, min 100 acts.length = N := ⟨_, rfl⟩
  rw [hN] at hat
  have hNl : (acts.take 100).length = N := by rw [List.length_take, hN]
  obtain ⟨al, has⟩ : ∃ al, acts.take 100 = al := ⟨_, rfl⟩
  rw [has] at hat hNl
  have hm0 : 0 ≤ min (acts.length : Int) 100 := by omega
  have hm1 : min (acts.length : Int) 100 ≤ (cap : Int) := by omega
  have hmn : (min (acts.length : Int) 100).toNat = N := by omega
  have hN80 : N ≤ 100 := by omega
  have HH := (show Hid _ from And.intro hat hNl)
  have haw := awake_any w
  clear hat ha has hN hNl
  go_enter Try.func8, Try.ntmps8
  go_wp2_with fail
  refine haw.mono ?_
  rintro e w1 ⟨rfl, hB1⟩
  clear haw
  go_wp2_with fail
  refine (New_any w1).mono ?_
  rintro e w2 ⟨T, rfl, ht2, hb2⟩
  have H3 : Hid (Tree w w2 T []) := ⟨ht2.mono fun a ha => Nat.le_trans hB1.size ha, hB1.trans (hb2.mono hB1.size)⟩
  clear ht2 hb2 hB1
  go_wp2_with fail
  go_loopg [7, 24] N (fun gg _ i wr => ∃ (k : Nat) (l : List En), k ≤ N ∧ N - k ≤ gg ∧ i = .int .i64 k ∧ Aside (Tree w wr T l ∧ l.length ≤ k))
  case atStart => exact ⟨0, [], Nat.zero_le _, by omega, rfl, H3.out, Nat.le_refl _⟩
  case round =>
    obtain ⟨k, l, hk, hgg, rfl, A⟩ := hrel
    obtain ⟨hT, hl⟩ := A.out
    clear A H3
    by_cases hlt : k < N
    · obtain ⟨hat, hNl⟩ := HH.out
      obtain ⟨⟨kd, ky, id⟩, he⟩ : ∃ e, al[k]? = some e := ⟨_, List.getElem?_eq_getElem (by omega)⟩
      obtain ⟨b, o, rfl, hok, c0, c1, c2⟩ := (hat.below hT.2).at he
      simp only at c0 c1 c2
      have zk : (k : Int) < (N : Int) := by omega
      obtain ⟨W4, hW4, hb4, hs4, m0, m1, m2⟩ := boxA_any wr kd ky id
      have hent := Ent_any ⟨kd, ky, id⟩ hok W4
      obtain ⟨ek, ei, hee⟩ : ∃ ek ei, Ac.ent ⟨kd, ky, id⟩ = (ek, ei) := ⟨_, _, rfl⟩
      rw [hee] at hent
      have HE := (show Hid _ from hent)
      have H4 : Hid (Tree w W4 T l ∧ l.length ≤ k) := ⟨hT.same hb4, hl⟩
      have HK := (show Hid _ from And.intro hk hgg)
      clear hat hNl he hT hl hb4 hent hok hk hgg
      go_wp2_with fail
      refine Calls.mono HE.out ?_
      rintro e w5 ⟨rfl, hb5⟩
      have H5 : Hid (Tree w w5 T l ∧ l.length ≤ k) := ⟨H4.out.1.same hb5, H4.out.2⟩
      clear hb5 H4 HE m0 m1 m2 c0 c1 c2
      have hadd := AddT_any (ek, ei) w5 H5.out.1.1 (by have := H5.out.2; omega)
      have HA := (show Hid _ from hadd)
      clear hadd
      go_wp2_with fail
      refine Calls.mono HA.out ?_
      rintro e w6 ⟨rfl, ht6, hf6⟩
      have H7 : Hid (Tree w w6 T (insE (ek, ei) l) ∧ (insE (ek, ei) l).length ≤ k + 1) := ⟨H5.out.1.step ht6 hf6, by have := H5.out.2; have := len_with (ek, ei) false l; show (withL _ _ _).length ≤ _; omega⟩
      clear ht6 hf6 H5 HA
      go_wp2
      go_roundg (N - (k + 1))
      case measure => have := HK.out; omega
      case rel => have := HK.out; exact ⟨k + 1, _, by omega, by omega, by simp, H7.out⟩
    · obtain rfl : N = k := by omega
      obtain ⟨wo, rfl⟩ : ∃ wo, wo = wr := ⟨_, rfl⟩
      obtain ⟨W5, hW5, hb5, hs5, -, -⟩ := box_any wo ⟨#[]⟩ 0
      have r5 : Bx W5 wo.heap.size ⟨#[]⟩ 0 := by rw [← hW5]; exact heap_alloc_new _ _
      have hbx : Boxed w W5 T l (fun a => a = wo.heap.size) := ((Boxed.of hT).more hb5 (Nat.le_refl _) (by omega)).less fun a ha => .inr ha
      obtain ⟨F, hF⟩ := hbx.tree
      have hlen := LenT_any W5 hF
      have hXw : w.heap.size ≤ wo.heap.size := hT.2.size
      obtain ⟨M, hM⟩ : ∃ M, l.length = M := ⟨_, rfl⟩
      rw [hM] at hlen hl
      have HL := (show Hid _ from hlen)
      have H5 : Hid (Boxed w W5 T l (fun a => a = wo.heap.size) ∧ Bx W5 wo.heap.size ⟨#[]⟩ 0 ∧ l.length = M) := ⟨hbx, r5, hM⟩
      have zk : ¬ (N : Int) < (N : Int) := by omega
      have hM2 : M ≤ 100 := by omega
      clear hT hl hk hgg hlt hb5 hs5 r5 hbx hF hlen hM hm0 hm1 hmn
      go_wp2_with fail
      refine Calls.mono HL.out ?_
      rintro e w6 ⟨rfl, hw6⟩
      subst hw6
      clear HL
      go_wp2_with fail
      go_loopg [9, 10, 11] M (fun gg nv _ _ wq => ∃ (m : List En) (lk : ByteArray) (li : Int) (n : Nat), n ≤ gg ∧ n ≤ 100 ∧ nv = .int .i64 n ∧ Aside (m.length = n ∧ Boxed w wq T m (fun a => a = wo.heap.size) ∧ Bx wq wo.heap.size lk li ∧ ((lk, li) = ((⟨#[]⟩, 0) : En) ∨ ∀ x ∈ m, if down = true then cmpE x (lk, li) < 0 else cmpE (lk, li) x < 0)))
      case atStart => exact ⟨l, ⟨#[]⟩, 0, M, Nat.le_refl _, hM2, rfl, H5.out.2.2, H5.out.1, H5.out.2.1, .inl rfl⟩
      case round =>
        obtain ⟨m, lk, li, n, hgg, hn100, rfl, A⟩ := hrel
        obtain ⟨hmn, hT, hX, hlast⟩ := A.out
        clear A H5
        by_cases hn : n = 0
        · have hm0 : m = [] := List.length_eq_zero_iff.1 (by omega)
          subst hm0
          obtain ⟨F, hF⟩ := hT.tree
          obtain ⟨h0, t0, htop, hfl, hnodes⟩ := NodesT_any wr hF (by simp)
          rw [nodes_none htop hfl] at hnodes
          have hall := fun (W : World) (hb : Below wr.heap.size wr W) => All_any W (hF.below hb) (by simp)
          have HN := (show Hid _ from hnodes)
          have HA := (show Hid _ from hall)
          have HT : Hid (Below w.heap.size w wr) := hT.below
          have zn : ¬ (0 : Int) < (n : Int) := by omega
          clear hT hX hlast hmn hF htop hfl hnodes hall
          go_wp2_with fail
          refine Calls.mono HN.out ?_
          rintro e w4 ⟨v4, rfl, hr4, hb4⟩
          obtain ⟨B, c, hv, -, -, e0, e1, e2, -⟩ := row_node (j := 0) hr4 rfl
          subst hv
          dsimp only at e0 e1 e2
          have H4 : Hid (Below wr.heap.size wr w4) := hb4
          clear hr4 hb4 HN
          go_wp2_with fail
          refine Calls.mono (HA.out _ H4.out) ?_
          rintro e w5 ⟨v5, rfl, B5, ho5⟩
          obtain ⟨qa, qc, rfl⟩ := ho5.slice
          have H5 : Hid (Below w.heap.size w w5) := HT.out.trans ((H4.out.trans (ho5.below.mono H4.out.size)).mono HT.out.size)
          clear ho5 HA H4
          go_wp2
          go_ret
          exact ⟨rfl, H5.out⟩
        · obtain ⟨n', hn'⟩ : ∃ n', n = n' + 1 := ⟨n - 1, by omega⟩
          have zn : (0 : Int) < (n : Int) := by omega
          have zn1 : (n : Int) - 1 = (n' : Int) := by omega
          obtain ⟨F, hF⟩ := hT.tree
          have hs := hF.sort
          cases down with
          | false =>
            obtain ⟨⟨xk, xi⟩, r, hm⟩ : ∃ x r, m = x :: r := by
              cases m with
              | nil => simp at hmn; omega
              | cons x r => exact ⟨x, r, rfl⟩
            subst hm
            have hfirst := FirstT_any wr hF
            rw [show retO (((xk, xi) :: r).head?) = .tuple #[.agg #[.string xk, .int .i64 xi], .bool true] from rfl] at hfirst
            have HF := (show Hid _ from hfirst)
            have hdel := del_head hs
            have hhas : hasE (xk, xi) ((xk, xi) :: r) = true := hasE_iff.2 (by simp)
            have hrl : r.length = n' := by simp at hmn; omega
            have hlow : (lk, li) ≠ ((⟨#[]⟩, 0) : En) → decide (cmpE (lk, li) (xk, xi) < 0) = true := fun h => decide_eq_true (by
              rcases hlast with h1 | h1
              · exact absurd h1 h
              · simpa using h1 (xk, xi) (by simp))
            have hlastx : ∀ x ∈ r, if false = true then cmpE x (xk, xi) < 0 else cmpE (xk, xi) x < 0 := fun x hx => by
              simpa using (List.pairwise_cons.1 hs).1 x hx
            have H4 : Hid (Boxed w wr T ((xk, xi) :: r) (fun a => a = wo.heap.size) ∧ Bx wr wo.heap.size lk li) := ⟨hT, hX⟩
            have hln : ((xk, xi) :: r).length ≤ 1000000 := by omega
            clear hT hX hlast hmn hF hs hfirst
            go_wp2_with fail
            refine Calls.mono HF.out ?_
            rintro e w6x ⟨rfl, hb6⟩
            obtain ⟨W7, hW7, hb7, hs7, -, -⟩ := box_any w6x xk xi
            have rY7 : Bx W7 w6x.heap.size xk xi := by rw [← hW7]; exact heap_alloc_new _ _
            have rX7 := bx_below (bx_below H4.out.2 hb6) hb7
            have hbx7 : Boxed w W7 T ((xk, xi) :: r) (fun a => a = wo.heap.size ∨ a = w6x.heap.size) := (H4.out.1.same hb6).more hb7 (Nat.le_refl _) (by omega)
            clear hb6 hb7 hs7 H4 HF
            obtain ⟨v0x, v1x, vfx, vltx⟩ := row2_of rY7
            have hdl := hbx7.del (xk, xi) (by omega)
            rw [hhas, hdel] at hdl
            have HD := (show Hid _ from hdl)
            have H7 : Hid (Bx W7 wo.heap.size lk li ∧ Bx W7 w6x.heap.size xk xi) := ⟨rX7, rY7⟩
            have HM := (show Hid _ from And.intro hrl (And.intro hlow hlastx))
            clear hdl hbx7 rX7 rY7 hhas hdel hrl hlow hlastx
            go_wp2_with fail
            refine Calls.mono HD.out ?_
            rintro e w8 ⟨rfl, hbx8, hk8⟩
            have rX8 : Bx w8 wo.heap.size lk li := (hk8 _ (.inl rfl)).trans H7.out.1
            have rY8 : Bx w8 w6x.heap.size xk xi := (hk8 _ (.inr rfl)).trans H7.out.2
            obtain ⟨F, hF⟩ := hbx8.tree
            have hlen := LenT_any w8 hF
            rw [HM.out.1] at hlen
            have hright := right_any w8 hF (by have := HM.out.1; omega)
            have HL := (show Hid _ from hlen)
            have HR := (show Hid _ from hright)
            have H8 : Hid (Boxed w w8 T r (fun a => a = wo.heap.size ∨ a = w6x.heap.size) ∧ Bx w8 wo.heap.size lk li ∧ Bx w8 w6x.heap.size xk xi) := ⟨hbx8, rX8, rY8⟩
            clear hbx8 hk8 rX8 rY8 hF hlen hright HD H7 v0x v1x vfx vltx
            go_wp2_with fail
            refine Calls.mono HL.out ?_
            rintro e w8' ⟨rfl, hw8⟩
            subst hw8
            clear HL
            go_wp2_with fail
            refine Calls.mono HR.out ?_
            rintro e w9 ⟨rfl, hb9⟩
            have rX9 := bx_below H8.out.2.1 hb9
            have rY9 := bx_below H8.out.2.2 hb9
            have H9 : Hid (Boxed w w9 T r (fun a => a = wo.heap.size ∨ a = w6x.heap.size) ∧ Bx w9 wo.heap.size lk li ∧ Bx w9 w6x.heap.size xk xi) := ⟨H8.out.1.same hb9, rX9, rY9⟩
            obtain ⟨a0, a1, af, alt⟩ := row2_of rX9
            obtain ⟨b0, b1, bf, blt⟩ := row2_of rY9
            clear rX9 rY9 hb9 H8 HR
            by_cases hk0 : lk = ⟨#[]⟩
            · subst hk0
              by_cases hi0 : li = 0
              · subst hi0
                go_wp2
                go_roundg n'
                case measure => omega
                case rel =>
                  obtain ⟨y1, y2, y3⟩ := HM.out
                  exact ⟨r, xk, xi, n', Nat.le_refl _, by omega, by simp, y1, (H9.out.1.set hXw (.inl rfl)).less fun a ha => .inl ha, set2 H9.out.2.1, .inr y3⟩
              · have hlow := HM.out.2.1 (fun h => hi0 (by cases h; rfl))
                have hbl := Below_any ((⟨#[]⟩ : ByteArray), li) (xk, xi) w9
                rw [hlow] at hbl
                have HBL := (show Hid _ from hbl)
                clear hbl hlow
                go_wp2_with fail
                refine Calls.mono HBL.out ?_
                rintro e w10 ⟨rfl, hb10⟩
                have rX10 := bx_below H9.out.2.1 hb10
                have rY10 := bx_below H9.out.2.2 hb10
                have H10 : Hid (Boxed w w10 T r (fun a => a = wo.heap.size ∨ a = w6x.heap.size) ∧ Bx w10 wo.heap.size (⟨#[]⟩ : ByteArray) li ∧ Bx w10 w6x.heap.size xk xi) := ⟨H9.out.1.same hb10, rX10, rY10⟩
                obtain ⟨c0, c1, cf, clt⟩ := row2_of rX10
                obtain ⟨d0, d1, df, dlt⟩ := row2_of rY10
                clear rX10 rY10 hb10 H9 HBL a0 a1 af alt b0 b1 bf blt
                go_wp2
                go_roundg n'
                case measure => omega
                case rel =>
                  obtain ⟨y1, y2, y3⟩ := HM.out
                  exact ⟨r, xk, xi, n', Nat.le_refl _, by omega, by simp, y1, (H10.out.1.set hXw (.inl rfl)).less fun a ha => .inl ha, set2 H10.out.2.1, .inr y3⟩
            · have hkl : ¬ lk.toList = [] := fun h => hk0 (cmpT_eq (by unfold cmpT; rw [h, show (⟨#[]⟩ : ByteArray).toList = [] by simp]; rfl))
              have hlow := HM.out.2.1 (fun h => hk0 (by cases h; rfl))
              have hbl := Below_any (lk, li) (xk, xi) w9
              rw [hlow] at hbl
              have HBL := (show Hid _ from hbl)
              clear hbl hlow
              go_wp2_with fail
              refine Calls.mono HBL.out ?_
              rintro e w10 ⟨rfl, hb10⟩
              have rX10 := bx_below H9.out.2.1 hb10
              have rY10 := bx_below H9.out.2.2 hb10
              have H10 : Hid (Boxed w w10 T r (fun a => a = wo.heap.size ∨ a = w6x.heap.size) ∧ Bx w10 wo.heap.size lk li ∧ Bx w10 w6x.heap.size xk xi) := ⟨H9.out.1.same hb10, rX10, rY10⟩
              obtain ⟨c0, c1, cf, clt⟩ := row2_of rX10
              obtain ⟨d0, d1, df, dlt⟩ := row2_of rY10
              clear rX10 rY10 hb10 H9 HBL a0 a1 af alt b0 b1 bf blt
              go_wp2
              go_roundg n'
              case measure => omega
              case rel =>
                obtain ⟨y1, y2, y3⟩ := HM.out
                exact ⟨r, xk, xi, n', Nat.le_refl _, by omega, by simp, y1, (H10.out.1.set hXw (.inl rfl)).less fun a ha => .inl ha, set2 H10.out.2.1, .inr y3⟩
          | true =>
            obtain ⟨⟨xk, xi⟩, r, hm⟩ : ∃ x r, m = r ++ [x] := by
              have hne : m ≠ [] := fun h => by rw [h] at hmn; simp at hmn; omega
              exact ⟨m.getLast hne, m.dropLast, (List.dropLast_concat_getLast hne).symm⟩
            subst hm
            have hfirst := FirstT_any wr hF
            have hlst := fun (W : World) (hb : Below wr.heap.size wr W) => LastT_any W (hF.below hb)
            obtain ⟨fk, fi, fb, hfo⟩ := retO_form (r ++ [(xk, xi)]).head?
            rw [hfo] at hfirst
            rw [show retO ((r ++ [(xk, xi)]).getLast?) = .tuple #[.agg #[.string xk, .int .i64 xi], .bool true] by simp [retO_some]] at hlst
            have HF := (show Hid _ from hfirst)
            have HLS := (show Hid _ from hlst)
            have hdel := del_last hs
            have hhas : hasE (xk, xi) (r ++ [(xk, xi)]) = true := hasE_iff.2 (by simp)
            have hrl : r.length = n' := by simp at hmn; omega
            have hlow : (lk, li) ≠ ((⟨#[]⟩, 0) : En) → decide (cmpE (lk, li) (xk, xi) < 0) = false := fun h => decide_eq_false (by
              rcases hlast with h1 | h1
              · exact absurd h1 h
              · exact ltE_asymm (by simpa using h1 (xk, xi) (by simp)))
            have hlastx : ∀ x ∈ r, if true = true then cmpE x (xk, xi) < 0 else cmpE (xk, xi) x < 0 := fun x hx => by
              simpa using (List.pairwise_append.1 hs).2.2 x hx (xk, xi) (by simp)
            have H4 : Hid (Boxed w wr T (r ++ [(xk, xi)]) (fun a => a = wo.heap.size) ∧ Bx wr wo.heap.size lk li) := ⟨hT, hX⟩
            have hln : (r ++ [(xk, xi)]).length ≤ 1000000 := by omega
            clear hT hX hlast hmn hF hs hfirst hlst hfo
            go_wp2_with fail
            refine Calls.mono HF.out ?_
            rintro e w6x ⟨rfl, hb6⟩
            obtain ⟨W7, hW7, hb7, hs7, -, -⟩ := box_any w6x fk fi
            have rY7 : Bx W7 w6x.heap.size fk fi := by rw [← hW7]; exact heap_alloc_new _ _
            have rX7 := bx_below (bx_below H4.out.2 hb6) hb7
            have hb67 : Below wr.heap.size wr W7 := hb6.trans (hb7.mono hb6.size)
            have H7 : Hid (Boxed w W7 T (r ++ [(xk, xi)]) (fun a => a = wo.heap.size ∨ a = w6x.heap.size) ∧ Bx W7 wo.heap.size lk li ∧ Bx W7 w6x.heap.size fk fi ∧ Below wr.heap.size wr W7) := ⟨(H4.out.1.same hb6).more hb7 (Nat.le_refl _) (by omega), rX7, rY7, hb67⟩
            have hYw : w.heap.size ≤ w6x.heap.size := Nat.le_trans H4.out.1.below.size hb6.size
            have hYX : wo.heap.size ≠ w6x.heap.size := by have h1 := lt_of_heap H4.out.2; have h2 := hb6.size; omega
            clear hb6 hb7 hs7 HF H4 rX7 rY7 hb67
            go_wp2_with fail
            refine Calls.mono (HLS.out _ H7.out.2.2.2) ?_
            rintro e w8x ⟨rfl, hb8⟩
            have rY8 := bx_below H7.out.2.2.1 hb8
            have rX8 := bx_below H7.out.2.1 hb8
            obtain ⟨y0, y1, yf, ylt⟩ := row2_of rY8
            obtain ⟨w9x, hw9x⟩ : ∃ w9x, (w8x.setCell ⟨w6x.heap.size, 0, none⟩ (.string xk)).setCell ⟨w6x.heap.size, 1, none⟩ (.int .i64 xi) = w9x := ⟨_, rfl⟩
            have rX7 : Bx w9x wo.heap.size lk li := by rw [← hw9x]; exact bx_other rX8 hYX
            have rY7 : Bx w9x w6x.heap.size xk xi := by rw [← hw9x]; exact set2 rY8
            have hbx7 : Boxed w w9x T (r ++ [(xk, xi)]) (fun a => a = wo.heap.size ∨ a = w6x.heap.size) := by rw [← hw9x]; exact (H7.out.1.same hb8).set hYw (.inr rfl)
            clear hb8 rY8 rX8 H7 HLS
            obtain ⟨v0x, v1x, vfx, vltx⟩ := row2_of rY7
            have hdl := hbx7.del (xk, xi) (by omega)
            rw [hhas, hdel] at hdl
            have HD := (show Hid _ from hdl)
            have H7 : Hid (Bx w9x wo.heap.size lk li ∧ Bx w9x w6x.heap.size xk xi) := ⟨rX7, rY7⟩
            have HM := (show Hid _ from And.intro hrl (And.intro hlow hlastx))
            clear hdl hbx7 rX7 rY7 hhas hdel hrl hlow hlastx
            go_wp2_with fail
            refine Calls.mono HD.out ?_
            rintro e w8 ⟨rfl, hbx8, hk8⟩
            have rX8 : Bx w8 wo.heap.size lk li := (hk8 _ (.inl rfl)).trans H7.out.1
            have rY8 : Bx w8 w6x.heap.size xk xi := (hk8 _ (.inr rfl)).trans H7.out.2
            obtain ⟨F, hF⟩ := hbx8.tree
            have hlen := LenT_any w8 hF
            rw [HM.out.1] at hlen
            have hright := right_any w8 hF (by have := HM.out.1; omega)
            have HL := (show Hid _ from hlen)
            have HR := (show Hid _ from hright)
            have H8 : Hid (Boxed w w8 T r (fun a => a = wo.heap.size ∨ a = w6x.heap.size) ∧ Bx w8 wo.heap.size lk li ∧ Bx w8 w6x.heap.size xk xi) := ⟨hbx8, rX8, rY8⟩
            clear hbx8 hk8 rX8 rY8 hF hlen hright HD H7 v0x v1x vfx vltx
            go_wp2_with fail
            refine Calls.mono HL.out ?_
            rintro e w8' ⟨rfl, hw8⟩
            subst hw8
            clear HL
            go_wp2_with fail
            refine Calls.mono HR.out ?_
            rintro e w9 ⟨rfl, hb9⟩
            have rX9 := bx_below H8.out.2.1 hb9
            have rY9 := bx_below H8.out.2.2 hb9
            have H9 : Hid (Boxed w w9 T r (fun a => a = wo.heap.size ∨ a = w6x.heap.size) ∧ Bx w9 wo.heap.size lk li ∧ Bx w9 w6x.heap.size xk xi) := ⟨H8.out.1.same hb9, rX9, rY9⟩
            obtain ⟨a0, a1, af, alt⟩ := row2_of rX9
            obtain ⟨b0, b1, bf, blt⟩ := row2_of rY9
            clear rX9 rY9 hb9 H8 HR
            by_cases hk0 : lk = ⟨#[]⟩
            · subst hk0
              by_cases hi0 : li = 0
              · subst hi0
                go_wp2
                go_roundg n'
                case measure => omega
                case rel =>
                  obtain ⟨y1, y2, y3⟩ := HM.out
                  exact ⟨r, xk, xi, n', Nat.le_refl _, by omega, by simp, y1, (H9.out.1.set hXw (.inl rfl)).less fun a ha => .inl ha, set2 H9.out.2.1, .inr y3⟩
              · have hlow := HM.out.2.1 (fun h => hi0 (by cases h; rfl))
                have hbl := Below_any ((⟨#[]⟩ : ByteArray), li) (xk, xi) w9
                rw [hlow] at hbl
                have HBL := (show Hid _ from hbl)
                clear hbl hlow
                go_wp2_with fail
                refine Calls.mono HBL.out ?_
                rintro e w10 ⟨rfl, hb10⟩
                have rX10 := bx_below H9.out.2.1 hb10
                have rY10 := bx_below H9.out.2.2 hb10
                have H10 : Hid (Boxed w w10 T r (fun a => a = wo.heap.size ∨ a = w6x.heap.size) ∧ Bx w10 wo.heap.size (⟨#[]⟩ : ByteArray) li ∧ Bx w10 w6x.heap.size xk xi) := ⟨H9.out.1.same hb10, rX10, rY10⟩
                obtain ⟨c0, c1, cf, clt⟩ := row2_of rX10
                obtain ⟨d0, d1, df, dlt⟩ := row2_of rY10
                clear rX10 rY10 hb10 H9 HBL a0 a1 af alt b0 b1 bf blt
                go_wp2
                go_roundg n'
                case measure => omega
                case rel =>
                  obtain ⟨y1, y2, y3⟩ := HM.out
                  exact ⟨r, xk, xi, n', Nat.le_refl _, by omega, by simp, y1, (H10.out.1.set hXw (.inl rfl)).less fun a ha => .inl ha, set2 H10.out.2.1, .inr y3⟩
            · have hkl : ¬ lk.toList = [] := fun h => hk0 (cmpT_eq (by unfold cmpT; rw [h, show (⟨#[]⟩ : ByteArray).toList = [] by simp]; rfl))
              have hlow := HM.out.2.1 (fun h => hk0 (by cases h; rfl))
              have hbl := Below_any (lk, li) (xk, xi) w9
              rw [hlow] at hbl
              have HBL := (show Hid _ from hbl)
              clear hbl hlow
              go_wp2_with fail
              refine Calls.mono HBL.out ?_
              rintro e w10 ⟨rfl, hb10⟩
              have rX10 := bx_below H9.out.2.1 hb10
              have rY10 := bx_below H9.out.2.2 hb10
              have H10 : Hid (Boxed w w10 T r (fun a => a = wo.heap.size ∨ a = w6x.heap.size) ∧ Bx w10 wo.heap.size lk li ∧ Bx w10 w6x.heap.size xk xi) := ⟨H9.out.1.same hb10, rX10, rY10⟩
              obtain ⟨c0, c1, cf, clt⟩ := row2_of rX10
              obtain ⟨d0, d1, df, dlt⟩ := row2_of rY10
              clear rX10 rY10 hb10 H9 HBL a0 a1 af alt b0 b1 bf blt
              go_wp2
              go_roundg n'
              case measure => omega
              case rel =>
                obtain ⟨y1, y2, y3⟩ := HM.out
                exact ⟨r, xk, xi, n', Nat.le_refl _, by omega, by simp, y1, (H10.out.1.set hXw (.inl rfl)).less fun a ha => .inl ha, set2 H10.out.2.1, .inr y3⟩
end Go.Proofs.Ytgnhillnikjnfaa
