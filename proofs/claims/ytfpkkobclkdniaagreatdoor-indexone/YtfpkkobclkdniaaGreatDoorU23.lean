/-
  index.Of by its contract: what stands in an index of records. Conditions: as stated.
  Deeds as they come in: a row of structs of two small numbers and a slice of bytes. No conditions beyond those stated.
  Maps whose keys are numbers of 64 bits, told as functions of the key. No conditions beyond those stated.
  The law's deed, by its contract. Conditions: as stated.
  What the walks over the law's deeds share. No conditions beyond those stated.
-/
import Derived.Test.YtfpkkobclkdniaaGreatDoorU8
import Derived.Test.YtfpkkobclkdniaaGreatDoorU20
import Derived.Test.YtfpkkobclkdniaaGreatDoorU12
import Derived.Test.YtfpkkobclkdniaaGreatDoorU22
import Derived.Test.YtfpkkobclkdniaaGreatDoorU21
import Derived.Test.YtfpkkobclkdniaaGreatDoorProg
import Derived.Maps.RangeWalk
import Derived.Maps.OwnOps
import Derived.Maps.OwnSet
import Derived.WalkArith
import Derived.Deep.CutRange
import Derived.Test.YtfpkkobclkdniaaGreatDoorU5
namespace Go.Proofs.YtfpkkobclkdniaaGreatDoor
open Go.RowKit

/-- what a record's cells are, where there is one. -/
def DocIs (W : World) (rest : List Rec) (i k m : Int) (t : ByteArray) (l f : Value) : Prop := ∀ x rest', rest = x :: rest' → x.1 = i ∧ k = x.2.kind ∧ m = x.2.num ∧ t = x.2.text ∧ Lies 5 W x.2 l f
theorem DocIs.below {W W' : World} {rest : List Rec} {i k m : Int} {t : ByteArray} {l f : Value} (h : DocIs W rest i k m t l f) (hb : Below W.heap.size W W') : DocIs W' rest i k m t l f := fun x r e => by
  obtain ⟨h1, h2, h3, h4, h5⟩ := h x r e
  exact ⟨h1, h2, h3, h4, h5.below hb⟩
def DocAt (W : World) (P : Nat) (rest : List Rec) : Prop := ∃ i k m t al ln cl af fn cf, W.heap[P]? = some (.cells #[.int .i64 i, .int .i64 k, .int .i64 m, .string t, .slice al ln cl, .slice af fn cf] 94 (0, 0)) ∧ DocIs W rest i k m t (.slice al ln cl) (.slice af fn cf)
theorem NextH_any {base B : Nat} {rs rest : List Rec} {last : Int} (p : Int) (w : World) (h : HSt base w B rs last) (hg : nextR p rs = rest.head?) :
    Calls Tryz.prog 43 #[.pointer (some ⟨B, 0, none⟩), .int .i64 p] w fun e w' => ∃ i k m t al ln cl af fn cf, e = .returned (.tuple #[.agg #[.int .i64 i, .int .i64 k, .int .i64 m, .string t, .slice al ln cl, .slice af fn cf], .bool (!rest.isEmpty)]) ∧ DocIs w' rest i k m t (.slice al ln cl) (.slice af fn cf) ∧ Below w.heap.size w w' := by
  cases rest with
  | nil =>
    refine (NextH_none p w h hg).mono ?_
    rintro e w' ⟨rfl, hb⟩
    exact ⟨_, _, _, _, _, _, _, _, _, _, rfl, fun x r e => (by cases e), hb⟩
  | cons x rest =>
    refine (NextH_some p x w h hg).mono ?_
    rintro e w' ⟨l, f, rfl, hl, hb⟩
    obtain ⟨a1, c1, a2, c2, rfl, rfl⟩ := hl.slices
    exact ⟨_, _, _, _, _, _, _, _, _, _, rfl, fun y r e => by cases e; exact ⟨rfl, rfl, rfl, rfl, hl⟩, hb⟩
theorem own_baseI {w : World} {base base' : Nat} {e : TypeId} {size : Nat} {v : Value} {n : Nat} {xs : List Value} (h : w.ownsRow base e size v n xs) (hb : base' ≤ base) : w.ownsRow base' e size v n xs :=
  ⟨h.1, h.2.imp id fun ⟨g, cap, cur, hv, h1, r⟩ => ⟨g, cap, cur, hv, Nat.le_trans hb h1, r⟩⟩
theorem set6_at {W : World} {B t : Nat} {a0 a1 a2 a3 a4 a5 b0 b1 b2 b3 b4 b5 : Value} (h : W.heap[B]? = some (.cells #[a0, a1, a2, a3, a4, a5] t (0, 0))) : ((((((W.setCell ⟨B, 0, none⟩ b0).setCell ⟨B, 1, none⟩ b1).setCell ⟨B, 2, none⟩ b2).setCell ⟨B, 3, none⟩ b3).setCell ⟨B, 4, none⟩ b4).setCell ⟨B, 5, none⟩ b5).heap[B]? = some (.cells #[b0, b1, b2, b3, b4, b5] t (0, 0)) := by
  rw [setCell_row (setCell_row (setCell_row (setCell_row (setCell_row (setCell_row h _) _) _) _) _) _]
  rfl
theorem set6_kept {W : World} {B : Nat} {a0 a1 a2 a3 a4 a5 b0 b1 b2 b3 b4 b5 : Value} (h : W.heap[B]? = some (.cells #[a0, a1, a2, a3, a4, a5] 94 (0, 0))) : Kept W ((((((W.setCell ⟨B, 0, none⟩ b0).setCell ⟨B, 1, none⟩ b1).setCell ⟨B, 2, none⟩ b2).setCell ⟨B, 3, none⟩ b3).setCell ⟨B, 4, none⟩ b4).setCell ⟨B, 5, none⟩ b5) := fun b o ho _ h2 => by
  by_cases eb : b = B
  · subst eb
    rw [h] at ho
    cases ho
    exact absurd rfl (h2 _)
  · rw [setCell_six _ _ _ _ _ _ eb]
    exact ho

set_option maxRecDepth 100000 in
set_option maxHeartbeats 16000000 in
theorem IOf_any {base B0 : Nat} {rs : List Rec} {last : Int} (name path : ByteArray) (u : Bool) (ps : List ByteArray) (w : World) (hps : parsePP path = some ps) (hp : path.size ≤ 2147483648) (hE : PEnv w) (hh : HSt base w B0 rs last) (hn : ∀ r ∈ rs, Nice 3 r.2) :
    Calls Tryz.prog 22 #[.agg #[.string name, .string path, .bool u], .pointer (some ⟨B0, 0, none⟩)] w fun e w' => ∃ v, e = .returned v ∧ OwE w w.heap.size v (ofP ps rs) w' := by
  obtain ⟨W, hW⟩ : ∃ W, w.alloc (.cells #[.string name, .string path, .bool u] 23) = W := ⟨_, rfl⟩
  have hB : Below w.heap.size w W := by rw [← hW]; exact (Below.refl _ _).alloc (Nat.le_refl _) _
  have r0 : W.heap[w.heap.size]? = some (.cells #[.string name, .string path, .bool u] 23) := by rw [← hW]; exact heap_alloc_new _ _
  have c1 : W.cell? ⟨w.heap.size, 1, none⟩ = some (.string path) := by simp [World.cell?, r0]
  have hpp := Parse6_any path W (hE.below hB) hp
  rw [hps] at hpp
  have HH := (show Hid _ from And.intro (hh.below hB) (And.intro (hE.below hB) (And.intro hB (And.intro (part_size hps) hn))))
  clear hB r0 hE hh hn hp hps
  go_enter Tryz.func22, Tryz.ntmps22
  go_wp2_with fail
  clear hW
  refine hpp.mono ?_
  rintro e w2 ⟨hb2, v2, rfl, hst⟩
  obtain ⟨sa, sc, rfl, -⟩ := id hst
  obtain ⟨hh, hE, hB, hpz, hn⟩ := HH.out
  have hh2 := hh.below hb2
  have hnx := NextH_any 0 w2 hh2 (GoesR.start hh2.2.1).next
  obtain ⟨b, hb⟩ : ∃ b, (!rs.isEmpty) = b := ⟨_, rfl⟩
  rw [hb] at hnx
  have H2 := (show Hid _ from And.intro (hB.trans (hb2.mono hB.size)) (And.intro hh2 (And.intro (hE.below hb2) (And.intro hst (And.intro hpz (And.intro hn hb))))))
  clear hh hE hB hpz hn hh2 hb2 hst hpp c1 HH hb
  go_wp2_with fail
  refine hnx.mono ?_
  rintro e w3 ⟨i, k, m, t, al, ln, cl, af, fn, cf, rfl, hd, hb3⟩
  have hA3 : ∀ o, Below w3.heap.size w3 (w3.alloc o) := fun o => (Below.refl _ _).alloc (Nat.le_refl _) _
  have H3 := (show Hid _ from And.intro hd (And.intro hb3 hA3))
  clear hd hb3 hA3 hnx
  go_wp2
  go_loopg [7, 8, 9, 10, 11] rs.length (fun gg s7 s8 s9 _ _ wr => ∃ (P : Nat) (dn rest : List Rec) (p : Int) (oa : Option Addr) (on oc : Nat) (b : Bool), rest.length ≤ gg ∧ s7 = .slice oa on oc ∧ s8 = .pointer (some ⟨P, 0, none⟩) ∧ s9 = .bool b ∧ Aside ((!rest.isEmpty) = b ∧ GoesR rs p dn rest ∧ OwE w2 w2.heap.size (.slice oa on oc) (dn.filterMap (entP ps)) wr ∧ (Value.slice oa on oc).ownBlock ≠ some P ∧ DocAt wr P rest ∧ w2.heap.size ≤ P))
  case atStart =>
    obtain ⟨hw2, hh2, hE2, hst, hpz, hn, hb⟩ := H2.out
    obtain ⟨hd, hb3, hA3⟩ := H3.out
    exact ⟨w3.heap.size, [], rs, 0, none, 0, 0, b, Nat.le_refl _, rfl, rfl, rfl, hb, GoesR.start hh2.2.1, OwE.nil (hb3.trans ((hA3 _).mono hb3.size)) (Nat.le_refl _), by simp [Value.ownBlock], ⟨_, _, _, _, _, _, _, _, _, _, heap_alloc_new _ _, hd.below (hA3 _)⟩, hb3.size⟩
  case round =>
    obtain ⟨P, dn, rest, p, oa, on, oc, b, hgg, rfl, rfl, rfl, A⟩ := hrel
    cases rest with
    | nil =>
      obtain ⟨hb, hgo, how, hne, -, hP⟩ := A.out
      obtain rfl : false = b := hb
      obtain ⟨hw2, hh2, hE2, hst, hpz, hn, -⟩ := H2.out
      have hdn : rs = dn := by rw [hgo.eq, List.append_nil]
      obtain ⟨l, hl⟩ : ∃ l, dn.filterMap (entP ps) = l := ⟨_, rfl⟩
      have hll : l.length ≤ 1000000 := by
        have h1 := hh2.2.2.2.2
        have h2 : (dn.filterMap (entP ps)).length ≤ dn.length := ents_len
        rw [hl] at h2
        rw [hdn] at h1
        omega
      rw [hl] at how
      have hon : on = l.length := by
        obtain ⟨a, c, e⟩ := how.slice
        cases e
        rfl
      subst hon
      have hsort := Sort_any l (.slice oa l.length oc) w2.heap.size wr how.own how.below.size hll
      have HF := (show Hid _ from And.intro hw2 (And.intro hh2.2.1 (And.intro how.below (And.intro hdn hl))))
      clear hgo how hne hP hw2 hh2 hE2 hst hpz hn hl hll hdn hgg A
      go_wp2_with fail
      refine hsort.mono ?_
      rintro e w4 ⟨rfl, l', hperm, hpw, hown, hb4⟩
      have H4 := (show Hid _ from And.intro hperm (And.intro hpw (And.intro hown hb4)))
      clear hsort hperm hpw hown hb4
      go_wp2
      go_ret
      obtain ⟨hperm, hpw, hown, hb4⟩ := H4.out
      obtain ⟨hw2, hr, hbl, rfl, rfl⟩ := HF.out
      have e := sorted_is hr hperm (hpw.imp fun h => by omega)
      subst e
      exact ⟨_, rfl, hw2.trans ((hbl.trans hb4).mono hw2.size), own_baseI hown hw2.size, Nat.le_refl _⟩
    | cons x rest =>
      obtain ⟨hb, hgo, how, hne, hdoc, hP⟩ := A.out
      obtain rfl : true = b := hb
      obtain ⟨hw2, hh2, hE2, hst, hpz, hn, -⟩ := H2.out
      obtain ⟨i, k, m, t, al, ln, cl, af, fn, cf, hrow, hdi⟩ := hdoc
      obtain ⟨xi, xv⟩ := x
      obtain ⟨rfl, rfl, rfl, rfl, hlx⟩ := hdi _ _ rfl
      dsimp only at hlx
      obtain ⟨x0, x1, x2, x3, x4, x5, xf⟩ := row6 hrow
      have hNx : Nice 3 xv := hn (xi, xv) (by rw [hgo.eq]; simp)
      have hbw := how.below
      have hk := keyAt_any 5 ps _ xv _ _ wr (hE2.below hbw) hpz (hst.below hbw) hlx hNx
      have hgs := hgo.step hh2.2.1
      have hdl : dn.length ≤ 500 := by
        have h1 := hh2.2.2.2.2
        have h2 := congrArg List.length hgo.eq
        rw [List.length_append] at h2
        omega
      obtain ⟨l, hl⟩ : ∃ l, dn.filterMap (entP ps) = l := ⟨_, rfl⟩
      have hll : l.length ≤ 500 := by
        have h2 : (dn.filterMap (entP ps)).length ≤ dn.length := ents_len
        rw [hl] at h2
        omega
      rw [hl] at how
      have hgr : rest.length + 1 ≤ gk := hgg
      obtain ⟨o, ho⟩ : ∃ o, keyP ps xv = o := ⟨_, rfl⟩
      rw [ho] at hk
      have HQ := (show Hid _ from And.intro hgs (And.intro how (And.intro hne (And.intro hrow (And.intro hP (And.intro hl (And.intro ho hll)))))))
      clear hgo how hne hdi hrow hP hst hpz hn hlx hNx hbw hgs hdl hl ho hll A hE2 hw2 hh2 hgg
      cases o with
      | none =>
        go_wp2_with fail
        refine hk.mono ?_
        rintro e w4 ⟨he, hb4⟩
        obtain rfl : e = .returned (.tuple #[.string ⟨#[]⟩, .bool false]) := he
        clear hk x0 x1 x2 x3 x4 x5 xf
        obtain ⟨hgs, how, hne, hrow, hP, hl, ho, hll⟩ := HQ.out
        have hrow5 := (hb4.block _ (lt_of_heap hrow)).trans hrow
        have how5 : OwE w2 w2.heap.size (.slice oa on oc) ((dn ++ [(xi, xv)]).filterMap (entP ps)) w4 := by
          rw [ents_none ho, hl]
          exact how.same hb4
        clear how hne hrow hl ho hll HQ hb4
        obtain ⟨oa', on', oc', eo⟩ : ∃ oa' on' oc', Value.slice oa on oc = .slice oa' on' oc' := ⟨_, _, _, rfl⟩
        rw [eo] at how5
        cases eo
        obtain ⟨x0, x1, x2, x3, x4, x5, xf⟩ := row6 hrow5
        obtain ⟨W6, hW6⟩ : ∃ W, w4.alloc (.cells #[.int .i64 xi, .int .i64 xv.kind, .int .i64 xv.num, .string xv.text, .slice al ln cl, .slice af fn cf] 94) = W := ⟨_, rfl⟩
        have hA6 : Below w4.heap.size w4 W6 := by rw [← hW6]; exact (Below.refl _ _).alloc (Nat.le_refl _) _
        have r6 : W6.heap[w4.heap.size]? = some (.cells #[.int .i64 xi, .int .i64 xv.kind, .int .i64 xv.num, .string xv.text, .slice al ln cl, .slice af fn cf] 94 (0, 0)) := by rw [← hW6]; exact heap_alloc_new _ _
        obtain ⟨z0, z1, z2, z3, z4, z5, zf⟩ := row6 r6
        have how6 := how5.same hA6
        have hne6 := how5.ne (b := w4.heap.size) (.inr (Nat.le_refl _))
        obtain ⟨hw2, hh2, -⟩ := H2.out
        have hnx := NextH_any xi W6 (hh2.below how6.below) hgs.next
        obtain ⟨b, hb⟩ : ∃ b, (!rest.isEmpty) = b := ⟨_, rfl⟩
        rw [hb] at hnx
        have H6 := (show Hid _ from And.intro hgs (And.intro how6 (And.intro hne6 (And.intro r6 (And.intro hb how5.below.size)))))
        clear hgs how5 how6 hne6 r6 hb hw2 hh2 hA6 hrow5 hP
        go_wp2_with fail
        try rw [hW6]
        clear hW6
        refine hnx.mono ?_
        rintro e w7 ⟨i7, k7, m7, t7, al7, ln7, cl7, af7, fn7, cf7, rfl, hd7, hb7⟩
        clear hnx x0 x1 x2 x3 x4 x5 xf z0 z1 z2 z3 z4 z5 zf
        obtain ⟨hgs, how6, hne6, r6, hb, hz6⟩ := H6.out
        have r7 := (hb7.block _ (lt_of_heap r6)).trans r6
        obtain ⟨z0, z1, z2, z3, z4, z5, zf⟩ := row6 r7
        have H7 := (show Hid _ from And.intro hgs (And.intro (how6.same hb7) (And.intro hne6 (And.intro r7 (And.intro hb (And.intro hz6 hd7))))))
        clear hgs how6 hne6 r6 hb hz6 hd7 hb7 r7 H6
        go_wp2
        go_roundg rest.length
        case measure => omega
        case rel =>
          obtain ⟨hgs, how7, hne7, r7, hb, hz7, hd7⟩ := H7.out
          refine ⟨w4.heap.size, dn ++ [(xi, xv)], rest, xi, _, _, _, b, Nat.le_refl _, rfl, rfl, rfl, hb, hgs, ⟨set_six_below how7.below hz7 _ _ _ _ _ _, own_keep how7.own fun a ha => setCell_six _ _ _ _ _ _ (fun e => hne7 (by rw [← e]; exact vc_ne ha)), how7.le⟩, hne7, ⟨_, _, _, _, _, _, _, _, _, _, set6_at r7, ?_⟩, hz7⟩
          exact fun y r e => by
            obtain ⟨e1, e2, e3, e4, e5⟩ := hd7 y r e
            exact ⟨e1, e2, e3, e4, e5.kept (set6_kept r7)⟩
      | some ky =>
        go_wp2_with fail
        refine hk.mono ?_
        rintro e w4 ⟨he, hb4⟩
        obtain rfl : e = .returned (.tuple #[.string ky, .bool true]) := he
        clear hk x0 x1 x2 x3 x4 x5 xf
        obtain ⟨hgs, how, hne, hrow, hP, hl, ho, hll⟩ := HQ.out
        have hrow4 := (hb4.block _ (lt_of_heap hrow)).trans hrow
        have how4 := how.same hb4
        obtain ⟨x0, x1, x2, x3, x4, x5, xf⟩ := row6 hrow4
        have H4 := (show Hid _ from And.intro hgs (And.intro how4 (And.intro hne (And.intro hrow4 (And.intro hP (And.intro hl (And.intro ho (And.intro hll (And.intro how4.below.size (lt_of_heap hrow4))))))))))
        clear hgs how hne hrow hP hl ho hll HQ hb4 hrow4 how4
        go_wp2_with (first | (at_builtin; refine append_en rfl (.tmp 41) (.tmp 46) rfl H4.out.2.1 H4.out.2.2.2.2.2.2.2.2.1 (ky, xi) rfl _ rfl rfl (Nat.le_trans H4.out.2.2.2.2.2.2.2.1 (by decide)) ?_; intro s1 u1 h1 hz1 hk1; have H1 := (show Hid _ from And.intro h1 (And.intro hz1 hk1)); obtain ⟨y0, y1, y2, y3, y4, y5, yf⟩ := row6 ((hk1 P H4.out.2.2.2.2.2.2.2.2.2 H4.out.2.2.1).trans H4.out.2.2.2.1); clear h1 hz1 hk1 x0 x1 x2 x3 x4 x5 xf; obtain ⟨oa', oc', eo⟩ := H1.out.1.slice; subst eo) | fail)
        obtain ⟨hgs, how, hne, hrow, hP, hl, ho, hll, hz4, hlt4⟩ := H4.out
        obtain ⟨h1, hz1, hk1⟩ := H1.out
        have hrow5 := (hk1 P hlt4 hne).trans hrow
        have how5 : OwE w2 w2.heap.size (.slice oa' (l ++ [(ky, xi)]).length oc') ((dn ++ [(xi, xv)]).filterMap (entP ps)) u1 := by
          rw [ents_some (x := (xi, xv)) ho, hl]
          exact h1
        rw [List.length_append, List.length_singleton] at how5
        clear how hne hrow hl ho hll hz4 hlt4 H4 h1 hz1 hk1 H1 y0 y1 y2 y3 y4 y5 yf
        obtain ⟨x0, x1, x2, x3, x4, x5, xf⟩ := row6 hrow5
        obtain ⟨W6, hW6⟩ : ∃ W, u1.alloc (.cells #[.int .i64 xi, .int .i64 xv.kind, .int .i64 xv.num, .string xv.text, .slice al ln cl, .slice af fn cf] 94) = W := ⟨_, rfl⟩
        have hA6 : Below u1.heap.size u1 W6 := by rw [← hW6]; exact (Below.refl _ _).alloc (Nat.le_refl _) _
        have r6 : W6.heap[u1.heap.size]? = some (.cells #[.int .i64 xi, .int .i64 xv.kind, .int .i64 xv.num, .string xv.text, .slice al ln cl, .slice af fn cf] 94 (0, 0)) := by rw [← hW6]; exact heap_alloc_new _ _
        obtain ⟨z0, z1, z2, z3, z4, z5, zf⟩ := row6 r6
        have how6 := how5.same hA6
        have hne6 := how5.ne (b := u1.heap.size) (.inr (Nat.le_refl _))
        obtain ⟨hw2, hh2, -⟩ := H2.out
        have hnx := NextH_any xi W6 (hh2.below how6.below) hgs.next
        obtain ⟨b, hb⟩ : ∃ b, (!rest.isEmpty) = b := ⟨_, rfl⟩
        rw [hb] at hnx
        have H6 := (show Hid _ from And.intro hgs (And.intro how6 (And.intro hne6 (And.intro r6 (And.intro hb how5.below.size)))))
        clear hgs how5 how6 hne6 r6 hb hw2 hh2 hA6 hrow5 hP
        go_wp2_with fail
        try rw [hW6]
        clear hW6
        refine hnx.mono ?_
        rintro e w7 ⟨i7, k7, m7, t7, al7, ln7, cl7, af7, fn7, cf7, rfl, hd7, hb7⟩
        clear hnx x0 x1 x2 x3 x4 x5 xf z0 z1 z2 z3 z4 z5 zf
        obtain ⟨hgs, how6, hne6, r6, hb, hz6⟩ := H6.out
        have r7 := (hb7.block _ (lt_of_heap r6)).trans r6
        obtain ⟨z0, z1, z2, z3, z4, z5, zf⟩ := row6 r7
        have H7 := (show Hid _ from And.intro hgs (And.intro (how6.same hb7) (And.intro hne6 (And.intro r7 (And.intro hb (And.intro hz6 hd7))))))
        clear hgs how6 hne6 r6 hb hz6 hd7 hb7 r7 H6
        go_wp2
        go_roundg rest.length
        case measure => omega
        case rel =>
          obtain ⟨hgs, how7, hne7, r7, hb, hz7, hd7⟩ := H7.out
          refine ⟨u1.heap.size, dn ++ [(xi, xv)], rest, xi, _, _, _, b, Nat.le_refl _, rfl, rfl, rfl, hb, hgs, ⟨set_six_below how7.below hz7 _ _ _ _ _ _, own_keep how7.own fun a ha => setCell_six _ _ _ _ _ _ (fun e => hne7 (by rw [← e]; exact vc_ne ha)), how7.le⟩, hne7, ⟨_, _, _, _, _, _, _, _, _, _, set6_at r7, ?_⟩, hz7⟩
          exact fun y r e => by
            obtain ⟨e1, e2, e3, e4, e5⟩ := hd7 y r e
            exact ⟨e1, e2, e3, e4, e5.kept (set6_kept r7)⟩
end Go.Proofs.YtfpkkobclkdniaaGreatDoor

namespace Go.Proofs.YtfpkkobclkdniaaGreatDoor
open Go.RowKit

/-- a deed: its kind, its number, where its bytes lie, which they are. -/
structure Ac where
  kind : Int
  id : Int
  b : Value
  bs : List UInt8
/-- a slice of deeds. -/
def ActsAt (W : World) (s : Value) (acts : List Ac) : Prop :=
  ∃ (a : Option Addr) (cap : Nat), s = .slice a acts.length cap ∧ acts.length ≤ cap ∧ cap ≤ 9223372036854775807 ∧ (∀ e ∈ acts, 0 ≤ e.kind ∧ e.kind < 256 ∧ 0 ≤ e.id ∧ e.id < 256 ∧ BytesAt W e.b e.bs) ∧
    (acts ≠ [] → ∃ b o, a = some ⟨b, o, none⟩ ∧ ∀ (j : Nat) (e : Ac), acts[j]? = some e → W.cell? ⟨b, o + j * 3, none⟩ = some (.int .u8 e.kind) ∧ W.cell? ⟨b, o + j * 3 + 1, none⟩ = some (.int .u8 e.id) ∧ W.cell? ⟨b, o + j * 3 + 2, none⟩ = some e.b)
theorem ActsAt.below {W W' : World} {s : Value} {acts : List Ac} (h : ActsAt W s acts) (hb : Below W.heap.size W W') : ActsAt W' s acts := by
  obtain ⟨a, cap, h1, h2, h3, h4, h5⟩ := h
  refine ⟨a, cap, h1, h2, h3, fun e he => ?_, fun hne => ?_⟩
  · obtain ⟨k1, k2, k3, k4, k5⟩ := h4 e he
    exact ⟨k1, k2, k3, k4, k5.below hb⟩
  · obtain ⟨b, o, h6, h7⟩ := h5 hne
    exact ⟨b, o, h6, fun j e hj => by
      obtain ⟨c1, c2, c3⟩ := h7 j e hj
      exact ⟨(hb.cell (lt_of_cell c1)).trans c1, (hb.cell (lt_of_cell c2)).trans c2, (hb.cell (lt_of_cell c3)).trans c3⟩⟩
theorem ActsAt.slice {W : World} {s : Value} {acts : List Ac} (h : ActsAt W s acts) : ∃ a cap, s = .slice a acts.length cap ∧ acts.length ≤ cap ∧ cap ≤ 9223372036854775807 := by
  obtain ⟨a, cap, h1, h2, h3, _⟩ := h
  exact ⟨a, cap, h1, h2, h3⟩
theorem ActsAt.take {W : World} {a : Option Addr} {n cap : Nat} {acts : List Ac} (h : ActsAt W (.slice a n cap) acts) (m : Nat) : ActsAt W (.slice a (min m acts.length) cap) (acts.take m) := by
  obtain ⟨a', cap', h1, h2, h3, h4, h5⟩ := h
  simp only [Value.slice.injEq] at h1
  refine ⟨a, cap, by rw [List.length_take], by rw [List.length_take]; omega, by omega, fun e he => h4 e (List.mem_of_mem_take he), fun hne => ?_⟩
  obtain ⟨b, o, h6, h7⟩ := h5 (fun e => hne (by rw [e]; simp))
  refine ⟨b, o, h1.1.trans h6, fun j e hj => h7 j e ?_⟩
  rw [List.getElem?_take] at hj
  split at hj
  · exact hj
  · cases hj
/-- the deed at a place. -/
theorem ActsAt.at {W : World} {a : Option Addr} {n cap : Nat} {acts : List Ac} (h : ActsAt W (.slice a n cap) acts) {j : Nat} {e : Ac} (hj : acts[j]? = some e) :
    ∃ b o ba bc, a = some ⟨b, o, none⟩ ∧ e.b = .slice ba e.bs.length bc ∧ W.cell? ⟨b, o + j * 3, none⟩ = some (.int .u8 e.kind) ∧ W.cell? ⟨b, o + j * 3 + 1, none⟩ = some (.int .u8 e.id) ∧ W.cell? ⟨b, o + j * 3 + 2, none⟩ = some (.slice ba e.bs.length bc) ∧
      0 ≤ e.kind ∧ e.kind < 256 ∧ 0 ≤ e.id ∧ e.id < 256 ∧ BytesAt W (.slice ba e.bs.length bc) e.bs := by
  obtain ⟨a', cap', h1, h2, h3, h4, h5⟩ := h
  obtain ⟨k1, k2, k3, k4, k5⟩ := h4 e (List.mem_of_getElem? hj)
  obtain ⟨b, o, h6, h7⟩ := h5 (fun e => by rw [e] at hj; simp at hj)
  obtain ⟨c1, c2, c3⟩ := h7 j e hj
  obtain ⟨ba, bc, e1, _⟩ := id k5
  simp only [Value.slice.injEq] at h1
  rw [e1] at c3 k5
  exact ⟨b, o, ba, bc, h1.1.trans h6, e1, c1, c2, c3, k1, k2, k3, k4, k5⟩
end Go.Proofs.YtfpkkobclkdniaaGreatDoor

namespace Go.Proofs.YtfpkkobclkdniaaGreatDoor
open Go.RowKit
open Go.Maps (Keyed)

/-- what an element is, as it stands. -/
def raw (v : Value) : Option (DataW Value × List MemPlace) := some (.held v, [])
theorem lawK : Keyed Tryz.prog 2 := Go.Maps.int_keyed Tryz.underlying2
theorem keyK {i : Int} (h : (Lit.int .i64 i).wf = true) : keyOf Tryz.prog 2 (.int .i64 i) = some (.int .i64 i) := Go.Maps.keyOf_int_mk Tryz.underlying2 h
theorem wfK {i : Int} (h1 : -9223372036854775808 ≤ i) (h2 : i ≤ 9223372036854775807) : (Lit.int .i64 i).wf = true := WalkArith.wf_i64 (by omega)

section
variable {α : Type}
/-- what a map as it was read holds at each key. -/
def Holds (mk : α → Value) (D : DataW Value) (g : Int → Option α) : Prop := ∀ i, Maps.has D (.int .i64 i) = (g i).isSome ∧ ∀ a, g i = some a → ∀ z, D.atKey (.int .i64 i) z = .held (mk a)
/-- a map lies in a block: what it holds at each key, how many keys there are. -/
def MapOn (mk : α → Value) (W : World) (b n : Nat) (g : Int → Option α) (c : Nat) : Prop :=
  ∃ D : DataW Value, W.ownsMap Tryz.prog 2 raw b n D ∧ Maps.size D = c ∧ Holds mk D g
/-- it is gone through; which keys are still to come. -/
def RangeOn (mk : α → Value) (W : World) (b r n : Nat) (g : Int → Option α) (c : Nat) (left : Int → Bool) (cnt : Nat) : Prop :=
  ∃ (D : DataW Value) (L : Lit → Bool), W.ranges Tryz.prog 2 raw b r n D L cnt ∧ Maps.size D = c ∧ Holds mk D g ∧ ∀ i, L (.int .i64 i) = left i

variable {mk : α → Value} {w w' : World} {b r n c cnt : Nat} {g : Int → Option α} {left : Int → Bool}

theorem MapOn.made (w : World) : MapOn mk (w.alloc (.map #[] 0)) w.heap.size 0 (fun _ => none) 0 :=
  ⟨.map [], World.ownsMap_made _ _ _ _, rfl, fun _ => ⟨rfl, fun _ h => by cases h⟩⟩
theorem MapOn.kept {row : Option Nat} (h : MapOn mk w b n g c) (hg : w.grownBy w' row) (hne : some b ≠ row) : MapOn mk w' b n g c := by
  obtain ⟨D, h1, h2⟩ := h
  exact ⟨D, h1.kept hg hne, h2⟩
theorem MapOn.le {n' : Nat} (h : MapOn mk w b n g c) (hn : n ≤ n') : MapOn mk w b n' g c := by
  obtain ⟨D, h1, h2⟩ := h
  exact ⟨D, h1.mono hn, h2⟩
theorem MapOn.lt (h : MapOn mk w b n g c) : b < w.heap.size := by
  obtain ⟨D, h1, _⟩ := h
  exact h1.lt
theorem MapOn.block (h : MapOn mk w b n g c) : ∃ es k, w.heap[b]? = some (.map es k) := by
  obtain ⟨D, ⟨es, k, h1, _⟩, _⟩ := h
  exact ⟨es, k, h1⟩
/-- it stays while its block stays. -/
theorem MapOn.stay (h : MapOn mk w b n g c) (hg : w'.heap[b]? = w.heap[b]?) : MapOn mk w' b n g c := by
  obtain ⟨D, ⟨es, k, h1, h2⟩, h3⟩ := h
  exact ⟨D, ⟨es, k, hg.trans h1, h2⟩, h3⟩
theorem MapOn.alter {g' : Int → Option α} {c' : Nat} (h : MapOn mk w b n g c) (hg : ∀ i, g i = g' i) (hc : c = c') : MapOn mk w b n g' c' := by
  obtain rfl : g = g' := funext hg
  subst hc
  exact h
theorem RangeOn.on (h : RangeOn mk w b r n g c left cnt) : MapOn mk w b n g c := by
  obtain ⟨D, L, h1, h2, h3, _⟩ := h
  exact ⟨D, h1.owns, h2, h3⟩
theorem RangeOn.kept {row : Option Nat} (h : RangeOn mk w b r n g c left cnt) (hg : w.grownBy w' row) (hne : some b ≠ row) (hne2 : some r ≠ row) : RangeOn mk w' b r n g c left cnt := by
  obtain ⟨D, L, h1, h2⟩ := h
  exact ⟨D, L, h1.kept hg hne hne2, h2⟩
theorem RangeOn.left_eq (h : RangeOn mk w b r n g c left cnt) : w.rangeLeft b r = cnt := by
  obtain ⟨D, L, h1, _⟩ := h
  exact h1.left_eq
theorem RangeOn.lt (h : RangeOn mk w b r n g c left cnt) : r < w.heap.size := by
  obtain ⟨D, L, h1, _⟩ := h
  exact h1.lt
theorem RangeOn.ne (h : RangeOn mk w b r n g c left cnt) : r ≠ b := by
  obtain ⟨D, L, h1, _⟩ := h
  exact h1.ne

theorem isKey (i : Int) : WideAt.IsKeyLit (.int .i64 i) := trivial
theorem key_ne {i j : Int} (h : j ≠ i) : (Lit.int .i64 j) ≠ .int .i64 i := fun e => h (by cases e; rfl)
theorem Holds.at {D : DataW Value} (h : Holds mk D g) {i : Int} {u : Value} {z : DataW Value} (hr : raw u = some (D.atKey (.int .i64 i) z, [])) {a : α} (ha : g i = some a) : u = mk a := by
  rw [(h i).2 a ha z] at hr
  simpa [raw] using hr
theorem Holds.out {D : DataW Value} (h : Holds mk D g) {i : Int} {u z : Value} (hr : raw u = some (D.atKey (.int .i64 i) (.held z), [])) (ha : g i = none) : u = z := by
  rw [Maps.atKey_of_not_has (by rw [(h i).1, ha]; rfl)] at hr
  simpa [raw] using hr

section
variable {ops : Array Oper} {rest : List Oper} {o : Oper} {a : Act} {Q : Exit → Act → World → Prop}
theorem MapOn.look_run {e t : TypeId} (hown : MapOn mk w b n g c) (ht : Tryz.prog.underlying t = some (.map 2 e)) {z : Value} (hz : (zeroValue e).run Tryz.prog w = .ok z w) {i : Int} (hwf : (Lit.int .i64 i).wf = true) :
    (Instr.lookup t (.map (some b)) (.int .i64 i) false).run Tryz.prog w = .ok (match g i with | some u => mk u | none => z) w := by
  obtain ⟨D, h1, h2, h3⟩ := hown
  obtain ⟨v, ps, hrun, hv⟩ := h1.lookup lawK ht hz (show raw z = some (.held z, []) from rfl) (keyK hwf)
  have hps : ps = [] := by simp only [raw, Option.some.injEq, Prod.mk.injEq] at hv; exact hv.2.symm
  subst hps
  rw [hrun]
  cases hgi : g i with
  | none => rw [h3.out hv hgi]
  | some u => rw [h3.at hv hgi]
/-- 'v, ok := m[k]'. -/
theorem wpList_mlook_ok (hg : o.guard = none) (m x : Operand) (t : TypeId) (hop : o.op = Op.lookup t m x true) (e : TypeId) (ht : Tryz.prog.underlying t = some (.map 2 e)) {z : Value} (hz : (zeroValue e).run Tryz.prog w = .ok z w)
    (b n : Nat) (g : Int → Option α) (c : Nat) (hm : a.eval m = .map (some b)) (hown : MapOn mk w b n g c) (i : Int) (hwf : (Lit.int .i64 i).wf = true) (hx : a.eval x = .int .i64 i)
    (hK1 : ∀ u, g i = some u → wpList Tryz.prog ops Q rest (a.put o.dst (.tuple #[mk u, .bool true])) w) (hK0 : g i = none → wpList Tryz.prog ops Q rest (a.put o.dst (.tuple #[z, .bool false])) w) :
    wpList Tryz.prog ops Q (o :: rest) a w := by
  obtain ⟨D, h1, h2, h3⟩ := hown
  refine wpList_lookup_own_ok w hg m x t hop 2 e lawK ht raw hz (.held z) [] rfl b n D hm h1 (.int .i64 i) (.int .i64 i) hx (keyK hwf) ?_
  intro v ps hv
  rw [(h3 i).1]
  have hps : ps = [] := by simp only [raw, Option.some.injEq, Prod.mk.injEq] at hv; exact hv.2.symm
  subst hps
  cases hgi : g i with
  | none => rw [h3.out hv hgi]; exact hK0 hgi
  | some u => rw [h3.at hv hgi]; exact hK1 u hgi
/-- 'm[k]'. -/
theorem wpList_mlook (hg : o.guard = none) (m x : Operand) (t : TypeId) (hop : o.op = Op.lookup t m x false) (e : TypeId) (ht : Tryz.prog.underlying t = some (.map 2 e)) {z : Value} (hz : (zeroValue e).run Tryz.prog w = .ok z w)
    (b n : Nat) (g : Int → Option α) (c : Nat) (hm : a.eval m = .map (some b)) (hown : MapOn mk w b n g c) (i : Int) (hwf : (Lit.int .i64 i).wf = true) (hx : a.eval x = .int .i64 i)
    (hK1 : ∀ u, g i = some u → wpList Tryz.prog ops Q rest (a.put o.dst (mk u)) w) (hK0 : g i = none → wpList Tryz.prog ops Q rest (a.put o.dst z) w) :
    wpList Tryz.prog ops Q (o :: rest) a w := by
  obtain ⟨D, h1, h2, h3⟩ := hown
  refine wpList_plain hg fun K' hK' => ?_
  obtain ⟨v, ps, hrun, hv⟩ := h1.lookup lawK ht hz (show raw z = some (.held z, []) from rfl) (keyK hwf)
  have hps : ps = [] := by simp only [raw, Option.some.injEq, Prod.mk.injEq] at hv; exact hv.2.symm
  subst hps
  unfold Oper.wp
  simp [execOp, hop, hm, hx, hrun, Result.andThen]
  cases hgi : g i with
  | none => rw [h3.out hv hgi]; exact hK' _ _ (hK0 hgi)
  | some u => rw [h3.at hv hgi]; exact hK' _ _ (hK1 u hgi)
/-- 'v, ok := m[k]', where it is known whether the key is there. -/
theorem wpList_mlook_ok_some (hg : o.guard = none) (m x : Operand) (t : TypeId) (hop : o.op = Op.lookup t m x true) (e : TypeId) (ht : Tryz.prog.underlying t = some (.map 2 e)) {z : Value} (hz : (zeroValue e).run Tryz.prog w = .ok z w)
    (b n : Nat) (g : Int → Option α) (c : Nat) (hm : a.eval m = .map (some b)) (hown : MapOn mk w b n g c) (i : Int) (hwf : (Lit.int .i64 i).wf = true) (hx : a.eval x = .int .i64 i) (u : α) (hu : g i = some u)
    (hK1 : wpList Tryz.prog ops Q rest (a.put o.dst (.tuple #[mk u, .bool true])) w) : wpList Tryz.prog ops Q (o :: rest) a w :=
  wpList_mlook_ok hg m x t hop e ht hz b n g c hm hown i hwf hx (fun u' h => by rw [hu] at h; cases h; exact hK1) (fun h => by rw [hu] at h; cases h)
theorem wpList_mlook_ok_none (hg : o.guard = none) (m x : Operand) (t : TypeId) (hop : o.op = Op.lookup t m x true) (e : TypeId) (ht : Tryz.prog.underlying t = some (.map 2 e)) {z : Value} (hz : (zeroValue e).run Tryz.prog w = .ok z w)
    (b n : Nat) (g : Int → Option α) (c : Nat) (hm : a.eval m = .map (some b)) (hown : MapOn mk w b n g c) (i : Int) (hwf : (Lit.int .i64 i).wf = true) (hx : a.eval x = .int .i64 i) (hu : g i = none)
    (hK0 : wpList Tryz.prog ops Q rest (a.put o.dst (.tuple #[z, .bool false])) w) : wpList Tryz.prog ops Q (o :: rest) a w :=
  wpList_mlook_ok hg m x t hop e ht hz b n g c hm hown i hwf hx (fun u' h => by rw [hu] at h; cases h) (fun _ => hK0)
theorem wpList_mlook_some (hg : o.guard = none) (m x : Operand) (t : TypeId) (hop : o.op = Op.lookup t m x false) (e : TypeId) (ht : Tryz.prog.underlying t = some (.map 2 e)) {z : Value} (hz : (zeroValue e).run Tryz.prog w = .ok z w)
    (b n : Nat) (g : Int → Option α) (c : Nat) (hm : a.eval m = .map (some b)) (hown : MapOn mk w b n g c) (i : Int) (hwf : (Lit.int .i64 i).wf = true) (hx : a.eval x = .int .i64 i) (u : α) (hu : g i = some u)
    (hK1 : wpList Tryz.prog ops Q rest (a.put o.dst (mk u)) w) : wpList Tryz.prog ops Q (o :: rest) a w :=
  wpList_mlook hg m x t hop e ht hz b n g c hm hown i hwf hx (fun u' h => by rw [hu] at h; cases h; exact hK1) (fun h => by rw [hu] at h; cases h)
theorem wpList_mlook_none (hg : o.guard = none) (m x : Operand) (t : TypeId) (hop : o.op = Op.lookup t m x false) (e : TypeId) (ht : Tryz.prog.underlying t = some (.map 2 e)) {z : Value} (hz : (zeroValue e).run Tryz.prog w = .ok z w)
    (b n : Nat) (g : Int → Option α) (c : Nat) (hm : a.eval m = .map (some b)) (hown : MapOn mk w b n g c) (i : Int) (hwf : (Lit.int .i64 i).wf = true) (hx : a.eval x = .int .i64 i) (hu : g i = none)
    (hK0 : wpList Tryz.prog ops Q rest (a.put o.dst z) w) : wpList Tryz.prog ops Q (o :: rest) a w :=
  wpList_mlook hg m x t hop e ht hz b n g c hm hown i hwf hx (fun u' h => by rw [hu] at h; cases h) (fun _ => hK0)
/-- 'm[k] = v'. -/
theorem wpList_mput (hg : o.guard = none) (m x v : Operand) (t : TypeId) (hop : o.op = Op.mapUpdate t m x v) (e : TypeId) (ht : Tryz.prog.underlying t = some (.map 2 e))
    (b n : Nat) (g : Int → Option α) (c : Nat) (hm : a.eval m = .map (some b)) (hown : MapOn mk w b n g c) (hn : n < maxLen) (i : Int) (hwf : (Lit.int .i64 i).wf = true) (hx : a.eval x = .int .i64 i) (u : α) (hv : a.eval v = mk u)
    (hK : ∀ w', MapOn mk w' b (n + 1) (fun j => if j = i then some u else g j) (if (g i).isSome then c else c + 1) → w.grownBy w' (some b) → wpList Tryz.prog ops Q rest (a.put o.dst undef) w') :
    wpList Tryz.prog ops Q (o :: rest) a w := by
  obtain ⟨D, h1, h2, h3⟩ := hown
  refine wpList_mapUpdate_own w hg m x v t hop 2 e lawK ht raw b n D hm h1 hn (.int .i64 i) (mk u) (.int .i64 i) hx hv (keyK hwf) (.held (mk u)) [] rfl ?_
  intro w1 o1 g1
  refine hK w1 ⟨_, o1, ?_, fun j => ?_⟩ g1
  · rw [Maps.size_put (h1.tidy lawK), (h3 i).1, h2]
  · dsimp only
    by_cases hj : j = i
    · subst hj
      rw [if_pos rfl]
      refine ⟨Maps.has_put_same h1.isMap (isKey _) _, fun a' ha z => ?_⟩
      cases ha
      exact Maps.atKey_put_same h1.isMap (isKey _) _ _
    · rw [if_neg hj, Maps.has_put_other (key_ne hj)]
      refine ⟨(h3 j).1, fun a' ha z => ?_⟩
      rw [Maps.atKey_put_other (key_ne hj)]
      exact (h3 j).2 a' ha z
/-- 'delete(m, k)'. -/
theorem wpList_mdel (hg : o.guard = none) (m x : Operand) (t : TypeId) (hop : o.op = Op.call { callee := Callee.builtin Builtin.delete, args := #[m, x], argTypes := #[t, 2] }) (e : TypeId) (ht : Tryz.prog.underlying t = some (.map 2 e))
    (b n : Nat) (g : Int → Option α) (c : Nat) (hm : a.eval m = .map (some b)) (hown : MapOn mk w b n g c) (i : Int) (hwf : (Lit.int .i64 i).wf = true) (hx : a.eval x = .int .i64 i)
    (hK : ∀ w', MapOn mk w' b n (fun j => if j = i then none else g j) (c - if (g i).isSome then 1 else 0) → w.grownBy w' (some b) → wpList Tryz.prog ops Q rest (a.put o.dst (.tuple #[])) w') :
    wpList Tryz.prog ops Q (o :: rest) a w := by
  obtain ⟨D, h1, h2, h3⟩ := hown
  refine wpList_delete_own w hg m x t 2 hop e lawK ht raw b n D hm h1 (.int .i64 i) (.int .i64 i) hx (keyK hwf) ?_
  intro w1 o1 g1
  refine hK w1 ⟨_, o1, ?_, fun j => ?_⟩ g1.grown
  · have := Maps.size_del (k := .int .i64 i) (h1.tidy lawK)
    rw [(h3 i).1, h2] at this
    omega
  · dsimp only
    by_cases hj : j = i
    · subst hj
      rw [if_pos rfl]
      exact ⟨Maps.has_del_same, fun a' ha => by cases ha⟩
    · rw [if_neg hj, Maps.has_del_other (key_ne hj)]
      refine ⟨(h3 j).1, fun a' ha z => ?_⟩
      rw [Maps.atKey_del_other (key_ne hj)]
      exact (h3 j).2 a' ha z
/-- 'len(m)'. -/
theorem wpList_mlen (hg : o.guard = none) (m : Operand) (t : TypeId) (hop : o.op = Op.call { callee := Callee.builtin Builtin.len, args := #[m], argTypes := #[t] }) (e : TypeId) (ht : Tryz.prog.underlying t = some (.map 2 e))
    (b n : Nat) (g : Int → Option α) (c : Nat) (hm : a.eval m = .map (some b)) (hown : MapOn mk w b n g c) (hK : wpList Tryz.prog ops Q rest (a.put o.dst (.int .i64 c)) w) :
    wpList Tryz.prog ops Q (o :: rest) a w := by
  obtain ⟨D, h1, h2, h3⟩ := hown
  subst h2
  exact wpList_len_own w hg m t hop 2 e ht raw b n D hm h1 hK
/-- 'range m'. -/
theorem wpList_mrange (hg : o.guard = none) (m : Operand) (t : TypeId) (hop : o.op = Op.range t m) (e : TypeId) (ht : Tryz.prog.underlying t = some (.map 2 e)) (b n : Nat) (g : Int → Option α) (c : Nat)
    (hm : a.eval m = .map (some b)) (hown : MapOn mk w b n g c)
    (hK : ∀ w', RangeOn mk w' b w.heap.size n g c (fun i => (g i).isSome) c → w.grownBy w' none → w'.heap.size = w.heap.size + 1 → wpList Tryz.prog ops Q rest (a.put o.dst (.pointer (some ⟨w.heap.size, 0, none⟩))) w') :
    wpList Tryz.prog ops Q (o :: rest) a w := by
  obtain ⟨D, h1, h2, h3⟩ := hown
  refine wpList_range_own w hg m t hop 2 e lawK ht raw b n D hm h1 ?_
  intro w1 r1 g1 z1
  exact hK w1 ⟨D, _, by rw [← h2]; exact r1, h2, h3, fun i => (h3 i).1⟩ g1 z1
/-- the next one. -/
theorem wpList_mnext (hg : o.guard = none) (it : Operand) (hop : o.op = Op.next it false) (b r n : Nat) (g : Int → Option α) (c : Nat) (left : Int → Bool) (cnt : Nat) (hit : a.eval it = .pointer (some ⟨r, 0, none⟩))
    (h : RangeOn mk w b r n g c left cnt) (hDone : (∀ i, left i = false) → wpList Tryz.prog ops Q rest (a.put o.dst (.tuple #[.bool false])) w)
    (hMore : ∀ (i : Int) (u : α) (w' : World) (cnt' : Nat), (Lit.int .i64 i).wf = true → g i = some u → left i = true → RangeOn mk w' b r n g c (fun j => left j && !(j == i)) cnt' → cnt' < cnt → w.grownBy w' (some r) → w'.heap.size = w.heap.size →
      (Instr.entry (.pointer (some ⟨r, 0, none⟩))).run Tryz.prog w' = .ok (.tuple #[.int .i64 i, mk u]) w' → wpList Tryz.prog ops Q rest (a.put o.dst (.tuple #[.bool true, .int .i64 i, mk u])) w') :
    wpList Tryz.prog ops Q (o :: rest) a w := by
  obtain ⟨D, L, h1, h2, h3, h4⟩ := h
  refine wpList_plain hg fun K' hK' => ?_
  unfold Oper.wp
  rcases h1.next lawK o.type with ⟨h0, hl, hrun⟩ | ⟨key, v, kl, y, w', cnt', hkey, hlk, hv, hat, hrun, hrg, hlt, hgr, hsz, hen⟩
  · simp [execOp, hop, hit, hrun, Result.andThen]
    exact hK' _ _ (hDone fun i => by rw [← h4, hl])
  · obtain ⟨x, rfl, rfl, hwx⟩ := Maps.keyOf_int_inv Tryz.underlying2 hkey
    have hh := Maps.has_true_of_atKey hat
    rw [(h3 x).1] at hh
    obtain ⟨u, hu⟩ := Option.isSome_iff_exists.1 hh
    have hvu : v = mk u := by
      have e1 := (h3 x).2 u hu .nil
      rw [hat] at e1
      simp only [raw, Option.some.injEq] at hv
      rw [← hv] at e1
      simpa using e1
    subst hvu
    simp [execOp, hop, hit, hrun, Result.andThen]
    refine hK' _ _ (hMore x u w' cnt' hwx hu (by rw [← h4, hlk]) ⟨D, _, hrg, h2, h3, fun j => ?_⟩ hlt hgr hsz hen)
    show (L (.int .i64 j) && !(Lit.int .i64 j).sameKey (.int .i64 x)) = _
    rw [h4]
    simp [Lit.sameKey]
    rfl
end
end
end Go.Proofs.YtfpkkobclkdniaaGreatDoor

namespace Go.Proofs.YtfpkkobclkdniaaGreatDoor
open Go.RowKit

/-- a value as a map holds it. -/
structure Mv where
  v : V
  al : Option Addr
  cl : Nat
  af : Option Addr
  cf : Nat
def mkV (m : Mv) : Value := .agg #[.int .i64 m.v.kind, .int .i64 m.v.num, .string m.v.text, .slice m.al m.v.list.length m.cl, .slice m.af m.v.fields.length m.cf]
/-- what a map holds is what the records are, and lies there. -/
def Lp (W : World) (g : Int → Option Mv) (rs : List Rec) : Prop := ∀ i, (g i).map Mv.v = getR i rs ∧ ∀ m, g i = some m → Lies 3 W m.v (.slice m.al m.v.list.length m.cl) (.slice m.af m.v.fields.length m.cf)
def Pair (base : Nat) (W : World) (M n : Nat) (rs : List Rec) : Prop := base ≤ M ∧ ∃ g : Int → Option Mv, MapOn mkV W M n g rs.length ∧ Lp W g rs

section
variable {base B M n : Nat} {rs rs' : List Rec} {last : Int} {W W' : World} {g : Int → Option Mv}
theorem Lp.kept (h : Lp W g rs) (k : Kept W W') : Lp W' g rs := fun i => ⟨(h i).1, fun m hm => ((h i).2 m hm).kept k⟩
theorem Lp.cells (h : Lp W g rs) (k : Cells W W') : Lp W' g rs := fun i => ⟨(h i).1, fun m hm => ((h i).2 m hm).cells k⟩
theorem Lp.put (h : Lp W g rs) {i : Int} {m : Mv} (hm : Lies 3 W m.v (.slice m.al m.v.list.length m.cl) (.slice m.af m.v.fields.length m.cf)) (hr : ∀ j, getR j rs' = if j = i then some m.v else getR j rs) : Lp W (fun j => if j = i then some m else g j) rs' := by
  intro j
  rw [hr]
  dsimp only
  by_cases e : j = i
  · rw [if_pos e, if_pos e]
    exact ⟨rfl, fun m' hm' => by cases hm'; exact hm⟩
  · rw [if_neg e, if_neg e]; exact h j
theorem Lp.del (h : Lp W g rs) {i : Int} (hr : ∀ j, getR j rs' = if j = i then none else getR j rs) : Lp W (fun j => if j = i then none else g j) rs' := by
  intro j
  rw [hr]
  dsimp only
  by_cases e : j = i
  · rw [if_pos e, if_pos e]
    exact ⟨rfl, fun m' hm' => by cases hm'⟩
  · rw [if_neg e, if_neg e]; exact h j
theorem Lp.isSome (h : Lp W g rs) (i : Int) : (g i).isSome = (getR i rs).isSome := by rw [← (h i).1]; cases g i <;> rfl
theorem map_kept {α : Type} {mk : α → Value} {b : Nat} {c : Nat} {g : Int → Option α} (h : MapOn mk W b n g c) (k : Kept W W') : MapOn mk W' b n g c := by
  obtain ⟨es, c, hm⟩ := h.block
  exact h.stay ((k b _ hm (fun _ e => by cases e) (fun _ e => by cases e)).trans hm.symm)
theorem Pair.kept (h : Pair base W M n rs) (k : Kept W W') : Pair base W' M n rs := by
  obtain ⟨h0, g, h1, h2⟩ := h
  exact ⟨h0, g, map_kept h1 k, h2.kept k⟩
theorem Pair.below (h : Pair base W M n rs) (k : Below W.heap.size W W') : Pair base W' M n rs := h.kept (below_kept k)
theorem Pair.lt (h : Pair base W M n rs) : M < W.heap.size := by
  obtain ⟨h0, g, h1, h2⟩ := h
  exact h1.lt
theorem cells_put {α : Type} {mk : α → Value} {b : Nat} {c : Nat} {g : Int → Option α} (h : MapOn mk W b n g c) (hg : W.grownBy W' (some b)) : Cells W W' := by
  obtain ⟨es, k, hm⟩ := h.block
  exact Cells.of_map hm hg
end

theorem zeroValueV (w : World) : (zeroValue 40).run Tryz.prog w = .ok (.agg #[.int .i64 0, .int .i64 0, .string ⟨#[]⟩, .slice none 0 0, .slice none 0 0]) w := by kernel_rfl

theorem set5_at {W : World} {B t : Nat} {a0 a1 a2 a3 a4 b0 b1 b2 b3 b4 : Value} (h : W.heap[B]? = some (.cells #[a0, a1, a2, a3, a4] t (0, 0))) : (set5W W B 0 1 2 3 4 b0 b1 b2 b3 b4).heap[B]? = some (.cells #[b0, b1, b2, b3, b4] t (0, 0)) := by
  unfold set5W
  rw [setCell_row (setCell_row (setCell_row (setCell_row (setCell_row h _) _) _) _) _]; rfl

/-- what a deed leaves. -/
def Did (base B M n : Nat) (rs : List Rec) (last : Int) (w : World) (e : Ending) (w' : World) : Prop :=
  ∃ (rs' : List Rec) (last' : Int), e = .returned (.tuple #[.int .i64 last', .bool true]) ∧ HSt base w' B rs' last' ∧ Pair base w' M (n + 1) rs' ∧ Below base w w' ∧ last' ≤ last + 1 ∧ rs'.length ≤ rs.length + 1

attribute [local go_sem ↓] Go.wp_at_zero Go.wp_at_succ
end Go.Proofs.YtfpkkobclkdniaaGreatDoor

namespace Go.Proofs.YtfpkkobclkdniaaGreatDoor
open Go.RowKit

theorem pair_made {B : Nat} {w2 : World} (hz : B ≤ w2.heap.size) : Pair B (w2.alloc (.map #[] 0)) w2.heap.size 0 [] :=
  ⟨hz, fun _ => none, MapOn.made w2, fun _ => ⟨rfl, fun _ h => by cases h⟩⟩
theorem wrap24 {id : Int} (_h0 : 0 ≤ id) : IntKind.i64.wrap (id % 24) = id % 24 := by rw [IntKind.wrap_i64]; omega
theorem wrap24t {id : Int} (h0 : 0 ≤ id) : IntKind.i64.wrap (id.tmod 24) = id % 24 := by rw [Int.tmod_eq_emod_of_nonneg h0]; exact wrap24 h0
theorem wrap_small {x : Int} (h0 : -1000000 ≤ x) (h1 : x ≤ 1000000) : IntKind.i64.wrap x = x := by rw [IntKind.wrap_i64]; omega
theorem wrap64_small {x : Int} (h0 : -1000000 ≤ x) (h1 : x ≤ 1000000) : wrap64 x = x := by unfold wrap64; omega
theorem wf_small {x : Int} (h0 : -1000000 ≤ x) (h1 : x ≤ 1000000) : (Lit.int .i64 x).wf = true := wfK (by omega) (by omega)
/-- the deeds of the first so many, by what they leave. -/
structure Lop (B M : Nat) (w wr : World) (rs : List Rec) (last : Int) (n : Nat) : Prop where
  h : HSt B wr B rs last
  p : Pair B wr M n rs
  b : Below w.heap.size w wr
theorem Lop.below {B M n : Nat} {w wr w' : World} {rs : List Rec} {last : Int} (h : Lop B M w wr rs last n) (k : Below wr.heap.size wr w') : Lop B M w w' rs last n := ⟨h.h.below k, h.p.below k, h.b.trans (k.mono h.b.size)⟩
theorem range_below {α : Type} {mk : α → Value} {w w' : World} {b r n c cnt : Nat} {g : Int → Option α} {left : Int → Bool} (h : RangeOn mk w b r n g c left cnt) (k : Below w.heap.size w w') : RangeOn mk w' b r n g c left cnt :=
  h.kept (row := none) ⟨k.os, k.tape, k.output, k.size, fun i hi _ => k.block i hi⟩ (by simp) (by simp)
end Go.Proofs.YtfpkkobclkdniaaGreatDoor
