/-
  HeapMoves' walk. No conditions beyond those stated.
-/
import Derived.Test.YtjihfbahcebljaaDoorHLoop
namespace Go.Proofs.YtjihfbahcebljaaDoor
open Go.RowKit

theorem zeroBool (w : World) : (zeroValue 4).run Tryd.prog w = .ok (.bool false) w := by kernel_rfl
/-- one who goes through records, up to a number; those that were there all the while, those that were met. -/
structure Mvs (B M1 M2 n1 n2 : Nat) (w wr : World) (rs : List Rec) (last p : Int) (gT gS : Int → Option Bool) : Prop where
  h : HSt B wr B rs last
  t : ∃ c, MapOn Value.bool wr M1 n1 gT c
  s : ∃ c, MapOn Value.bool wr M2 n2 gS c
  b : Below w.heap.size w wr
  i1 : ∀ j, (gS j).isSome = true → j ≤ p
  i2 : ∀ j, (gT j).isSome = true → (getR j rs).isSome = true
  i3 : ∀ j, (gT j).isSome = true → j ≤ p → gS j = some true
section
variable {B M1 M2 n1 n2 : Nat} {w wr w' : World} {rs rs' : List Rec} {last last' p : Int} {gT gS : Int → Option Bool}
theorem Mvs.below (h : Mvs B M1 M2 n1 n2 w wr rs last p gT gS) (k : Below wr.heap.size wr w') : Mvs B M1 M2 n1 n2 w w' rs last p gT gS :=
  ⟨h.h.below k, ⟨_, map_kept h.t.choose_spec (below_kept k)⟩, ⟨_, map_kept h.s.choose_spec (below_kept k)⟩, h.b.trans (k.mono h.b.size), h.i1, h.i2, h.i3⟩
theorem Mvs.deed (h : Mvs B M1 M2 n1 n2 w wr rs last p gT gS) (hz : w.heap.size ≤ B) (h' : HSt B w' B rs' last') (k : Kept wr w') (b : Below B wr w') (hi : ∀ j, (gT j).isSome = true → (getR j rs').isSome = true) : Mvs B M1 M2 n1 n2 w w' rs' last' p gT gS :=
  ⟨h', ⟨_, map_kept h.t.choose_spec k⟩, ⟨_, map_kept h.s.choose_spec k⟩, h.b.trans (b.mono hz), h.i1, hi, h.i3⟩
end
theorem Mvs.strike {B M1 M2 n1 n2 c' : Nat} {w wr w3 w4 : World} {rs : List Rec} {last p i : Int} {gT gS : Int → Option Bool} (h : Mvs B M1 M2 n1 n2 w wr rs last p gT gS) (hz : w.heap.size ≤ B) (h' : HSt B w3 B (delR i rs) last) (k : Kept wr w3) (b : Below B wr w3)
    (hm : MapOn Value.bool w4 M1 n1 (fun j => if j = i then none else gT j) c') (hg : w3.grownBy w4 (some M1)) (hM : M1 ≠ M2) (hz1 : w.heap.size ≤ M1) : Mvs B M1 M2 n1 n2 w w4 (delR i rs) last p (fun j => if j = i then none else gT j) gS := by
  have hm3 := map_kept h.t.choose_spec k
  have hb3 := h.b.trans (b.mono hz)
  refine ⟨h'.cells (cells_put hm3 hg), ⟨_, hm⟩, ⟨_, (map_kept h.s.choose_spec k).kept hg (fun e => hM (Option.some.inj e).symm)⟩, hb3.grown hg hb3.size (fun kk e => by cases e; exact hz1), h.i1, fun j hj => ?_, fun j hj hp => ?_⟩
  · by_cases e : j = i
    · simp only [if_pos e] at hj; cases hj
    · simp only [if_neg e] at hj
      rw [get_delR h.h.2.1, if_neg e]
      exact h.i2 j hj
  · by_cases e : j = i
    · simp only [if_pos e] at hj; cases hj
    · simp only [if_neg e] at hj
      exact h.i3 j hj hp
theorem Mvs.step {B M1 M2 n1 n2 c' : Nat} {w w3 w4 : World} {rs : List Rec} {last p x : Int} {gT gS : Int → Option Bool} (h : Mvs B M1 M2 n1 n2 w w3 rs last p gT gS)
    (hm : MapOn Value.bool w4 M2 (n2 + 1) (fun j => if j = x then some true else gS j) c') (hg : w3.grownBy w4 (some M2)) (hM : M1 ≠ M2) (hz2 : w.heap.size ≤ M2) (hx : p < x) (hno : ∀ j, p < j → j < x → getR j rs = none) :
    Mvs B M1 M2 n1 (n2 + 1) w w4 rs last x gT (fun j => if j = x then some true else gS j) := by
  refine ⟨h.h.cells (cells_put h.s.choose_spec hg), ⟨_, h.t.choose_spec.kept hg (fun e => hM (Option.some.inj e))⟩, ⟨_, hm⟩, h.b.grown hg h.b.size (fun kk e => by cases e; exact hz2), fun j hj => ?_, h.i2, fun j hj hjx => ?_⟩
  · by_cases e : j = x
    · omega
    · simp only [if_neg e] at hj
      have := h.i1 j hj
      omega
  · by_cases e : j = x
    · rw [if_pos e]
    · rw [if_neg e]
      refine h.i3 j hj ?_
      rcases Int.lt_or_le p j with hp | hp
      · have h1 := h.i2 j hj
        rw [hno j hp (by omega)] at h1
        cases h1
      · exact hp
theorem Mvs.grow {B M1 M2 n1 n2 : Nat} {w wr : World} {rs : List Rec} {last p : Int} {gT gS : Int → Option Bool} (h : Mvs B M1 M2 n1 n2 w wr rs last p gT gS) : Mvs B M1 M2 n1 (n2 + 1) w wr rs last p gT gS :=
  ⟨h.h, h.t, ⟨_, h.s.choose_spec.le (Nat.le_succ _)⟩, h.b, h.i1, h.i2, h.i3⟩
theorem app_some {last j : Int} {v : V} {rs : List Rec} (hu : UpTo last rs) (h : (getR j rs).isSome = true) : (getR j (rs ++ [(last + 1, v)])).isSome = true := by
  rw [get_appR hu]
  split
  · rfl
  · exact h

set_option maxRecDepth 100000 in
set_option maxHeartbeats 8000000 in
theorem HeapMoves_walk (v0 : Value) (acts : List Ac) (c1 : Int) (wc1 : (Lit.int .u8 c1).wf = true) (w : World) (ha : ActsAt w v0 acts) (hT : Tabs w) :
    Calls Tryd.prog 7 #[v0, .int .u8 c1] w fun e w' => e = .returned (.bool true) ∧ Below w.heap.size w w' := by
  obtain ⟨a, cap, rfl, hc1, hc2⟩ := ha.slice
  have hat := ha.take 60
  obtain ⟨N, hN⟩ : ∃ N, min 60 acts.length = N := ⟨_, rfl⟩
  rw [hN] at hat
  have hNl : (acts.take 60).length = N := by rw [List.length_take, hN]
  obtain ⟨al, has⟩ : ∃ al, acts.take 60 = al := ⟨_, rfl⟩
  rw [has] at hat hNl
  have hm0 : 0 ≤ min (acts.length : Int) 60 := by omega
  have hm1 : min (acts.length : Int) 60 ≤ (cap : Int) := by omega
  have hmn : (min (acts.length : Int) 60).toNat = N := by omega
  have hN80 : N ≤ 60 := by omega
  have hc0 : 0 ≤ c1 := by
    simp only [Lit.wf, Bool.and_eq_true, decide_eq_true_eq] at wc1
    have h1 : IntKind.u8.min = 0 := rfl
    omega
  obtain ⟨K, hK⟩ : ∃ K : Nat, c1 % 30 = (K : Int) := ⟨(c1 % 30).toNat, by omega⟩
  have hK30 : K < 30 := by omega
  have zKw : IntKind.i64.wrap (K : Int) = (K : Int) := wrap_small (by omega) (by omega)
  have zKt : c1.tmod 30 = c1 % 30 := Int.tmod_eq_emod_of_nonneg hc0
  have HH := (show Hid _ from And.intro hat hT)
  have haw := hawake_true w
  have hmm := @run_makeMap Tryd.prog
  clear hat ha hT has hN wc1
  go_enter Tryd.func7, Tryd.ntmps7
  go_wp2_with fail
  refine haw.mono ?_
  rintro e w1 ⟨rfl, hB1⟩
  clear haw
  go_wp2_with fail
  refine (NewH_any w1).mono ?_
  rintro e w2 ⟨rfl, h2, hb2⟩
  obtain ⟨B, hBd⟩ : ∃ B, w1.heap.size = B := ⟨_, rfl⟩
  rw [hBd] at h2
  have hB2 : Below w.heap.size w w2 := hB1.trans (hb2.mono hB1.size)
  have zB : w.heap.size ≤ B := by have := hB1.size; omega
  have H2 : Hid (HSt B w2 B [] 0 ∧ Below w.heap.size w w2) := ⟨h2, hB2⟩
  rw [hBd]
  have ZK : Hid (IntKind.i64.wrap (K : Int) = (K : Int) ∧ c1.tmod 30 = c1 % 30) := ⟨zKw, zKt⟩
  clear h2 hB2 hb2 hBd hB1
  go_wp2_with fail
  clear zKw zKt
  go_loopg [7] K (fun gg i wr => ∃ (j : Nat) (rs : List Rec), j ≤ K ∧ K - j ≤ gg ∧ i = .int .i64 (j : Int) ∧ rs.length ≤ j ∧ Aside (HSt B wr B rs (j : Int) ∧ Below w.heap.size w wr ∧ ∀ q : Int, 1 ≤ q → q ≤ (j : Int) → (getR q rs).isSome = true))
  case atStart => exact ⟨0, [], Nat.zero_le _, by omega, rfl, Nat.le_refl _, H2.out.1, H2.out.2, fun q h1 h2 => by omega⟩
  case round =>
    obtain ⟨j, rs, hj, hgg, rfl, hrl, A⟩ := hrel
    by_cases hlt : j < K
    · have hcall := InsH_any (intH (j : Int)) (.slice none 0 0) (.slice none 0 0) wr A.out.1 lies_int (by omega) (by omega)
      have zj : (j : Int) < (K : Int) := by omega
      have YY : Hid (K - (j + 1) < gk ∧ j + 1 ≤ K) := ⟨by omega, by omega⟩
      go_wp2_with fail
      refine hcall.mono ?_
      rintro e w3 ⟨rfl, h3, -, hb3⟩
      have H3 : Hid (HSt B w3 B (rs ++ [((j : Int) + 1, intH (j : Int))]) (((j + 1 : Nat)) : Int) ∧ Below w.heap.size w w3 ∧ ∀ q : Int, 1 ≤ q → q ≤ ((j + 1 : Nat) : Int) → (getR q (rs ++ [((j : Int) + 1, intH (j : Int))])).isSome = true) := by
        refine ⟨h3, A.out.2.1.trans (hb3.mono zB), fun q h1 h2 => ?_⟩
        rw [get_appR A.out.1.2.2.1]
        split
        · rfl
        · exact A.out.2.2 q h1 (by omega)
      clear hcall h3 hb3
      go_wp2
      go_roundg (K - (j + 1))
      case measure => exact YY.out.1
      case rel => exact ⟨j + 1, rs ++ [((j : Int) + 1, intH (j : Int))], YY.out.2, Nat.le_refl _, by go_num, by simp; omega, H3.out⟩
    · obtain rfl : j = K := by omega
      have zj : ¬ (j : Int) < (j : Int) := by omega
      have H3 : Hid (HSt B wr B rs (j : Int) ∧ Below w.heap.size w wr ∧ ∀ q : Int, 1 ≤ q → q ≤ (j : Int) → (getR q rs).isSome = true) := A
      obtain ⟨w3, e3⟩ : ∃ w3, wr = w3 := ⟨_, rfl⟩
      rw [e3] at H3 ⊢
      clear A e3
      obtain ⟨M1, hM1⟩ : ∃ M1, w3.heap.size = M1 := ⟨_, rfl⟩
      have hB3 : ∀ ob, Below w3.heap.size w3 (w3.alloc ob) := fun ob => (Below.refl _ _).alloc (Nat.le_refl _) _
      have hmd : MapOn Value.bool (w3.alloc (.map #[] 0)) w3.heap.size 0 (fun _ => none) 0 := MapOn.made w3
      rw [hM1] at hmd
      clear hK hc0 ZK
      go_wp2_with fail
      try rw [hM1]
      go_loopg [9] (j + 1) (fun gg i wr => ∃ (q c : Nat), q ≤ j ∧ j - q < gg ∧ i = .int .i64 ((q : Int) + 1) ∧ Aside (MapOn Value.bool wr M1 q (fun z => if 1 ≤ z ∧ z ≤ (q : Int) then some true else none) c ∧ Below w3.heap.size w3 wr))
      case atStart => exact ⟨0, 0, Nat.zero_le _, by omega, rfl, hmd.alter (fun i => by rw [if_neg (by omega)]) rfl, hB3 _⟩
      case round =>
        obtain ⟨q, c, hq, hgg2, rfl, A⟩ := hrel
        by_cases hlt2 : q < j
        · have zq : (q : Int) + 1 ≤ (j : Int) := by omega
          have zwf : (Lit.int .i64 ((q : Int) + 1)).wf = true := wf_small (by omega) (by omega)
          have hm : MapOn Value.bool wr M1 q (fun z => if 1 ≤ z ∧ z ≤ (q : Int) then some true else none) c := A.out.1
          have YY : Hid (j - q < gk ∧ q + 1 ≤ j ∧ j - (q + 1) < j - q) := ⟨by omega, by omega, by omega⟩
          have hqm : q < maxLen := by unfold maxLen; omega
          have Y1 : Hid (wrap64 ((q : Int) + 1 + 1) = (q : Int) + 1 + 1) := wrap64_small (by omega) (by omega)
          go_wp2_with (first | (at_mapUpdate; refine wpList_mput rfl _ _ _ 53 rfl 4 Tryd.underlying53 M1 q _ c rfl hm hqm ((q : Int) + 1) zwf rfl true rfl ?_; intro w4 hm4 hg4) | fail)
          have hbw : Below w3.heap.size w3 w4 := A.out.2.grown hg4 A.out.2.size (fun kk e => by cases e; omega)
          have H4 : Hid (∃ c', MapOn Value.bool w4 M1 (q + 1) (fun z => if 1 ≤ z ∧ z ≤ ((q + 1 : Nat) : Int) then some true else none) c' ∧ Below w3.heap.size w3 w4) := by
            refine ⟨_, hm4.alter (fun i => ?_) rfl, hbw⟩
            by_cases e : i = (q : Int) + 1
            · rw [if_pos e, if_pos (by omega)]
            · rw [if_neg e]
              by_cases h : 1 ≤ i ∧ i ≤ (q : Int)
              · rw [if_pos h, if_pos (by omega)]
              · rw [if_neg h, if_neg (by omega)]
          clear hm4 hg4 hbw hm
          have y1 : wrap64 ((q : Int) + 1 + 1) = (q : Int) + 1 + 1 := Y1
          try go_frame
          go_wp2
          obtain ⟨c', H5⟩ := H4.out
          go_roundg (j - q)
          case measure => exact YY.out.1
          case rel => exact ⟨q + 1, c', YY.out.2.1, YY.out.2.2, by go_num, H5⟩
        · obtain rfl : q = j := by omega
          have zq : ¬ (q : Int) + 1 ≤ (q : Int) := by omega
          have hm : MapOn Value.bool wr M1 q (fun z => if 1 ≤ z ∧ z ≤ (q : Int) then some true else none) c := A.out.1
          have hbw : Below w3.heap.size w3 wr := A.out.2
          obtain ⟨w4, e4⟩ : ∃ w4, wr = w4 := ⟨_, rfl⟩
          rw [e4] at hm hbw ⊢
          clear A e4 hgg hgg2 hlt hlt2 zj
          obtain ⟨M2, hM2⟩ : ∃ M2, w4.heap.size = M2 := ⟨_, rfl⟩
          have hw4 : Below w4.heap.size w4 (w4.alloc (.map #[] 0)) := (Below.refl _ _).alloc (Nat.le_refl _) _
          have hmd2 : MapOn Value.bool (w4.alloc (.map #[] 0)) w4.heap.size 0 (fun _ => none) 0 := MapOn.made w4
          rw [hM2] at hmd2
          have zM1 : w.heap.size ≤ M1 := by have := H3.out.2.1.size; omega
          have zM2 : w.heap.size ≤ M2 := by have := H3.out.2.1.size; have := hbw.size; omega
          have z12 : M1 ≠ M2 := by have := hm.lt; omega
          have HS : Hid (Mvs B M1 M2 q 0 w (w4.alloc (.map #[] 0)) rs (q : Int) 0 (fun z => if 1 ≤ z ∧ z ≤ (q : Int) then some true else none) (fun _ => none)) := by
            have hb34 : Below w3.heap.size w3 (w4.alloc (.map #[] 0)) := hbw.trans (hw4.mono hbw.size)
            refine ⟨H3.out.1.below hb34, ⟨c, map_kept hm (kept_alloc _ _)⟩, ⟨0, hmd2⟩, H3.out.2.1.trans (hb34.mono H3.out.2.1.size), fun j h => (by cases h), fun z h => ?_, fun z h h0 => ?_⟩
            · by_cases e : 1 ≤ z ∧ z ≤ (q : Int)
              · exact H3.out.2.2 z e.1 e.2
              · simp only [if_neg e] at h; cases h
            · rw [if_neg (by omega)] at h; cases h
          clear hm hbw hw4 hmd hmd2 hB3
          go_wp2_with fail
          try rw [hM2]
          go_loopg [10, 13, 14, 15, 49] N (fun gg s10 _ _ _ i wr => ∃ (k : Nat) (rs : List Rec) (last p : Int) (gT gS : Int → Option Bool), k ≤ N ∧ N - k ≤ gg ∧ i = .int .i64 (k : Int) ∧ s10 = .int .i64 p ∧ rs.length ≤ 30 + k ∧ last ≤ 30 + (k : Int) ∧ Aside (Mvs B M1 M2 q k w wr rs last p gT gS))
          case atStart => exact ⟨0, rs, (q : Int), 0, _, _, Nat.zero_le _, by omega, rfl, rfl, by omega, by omega, HS⟩
          case round =>
            clear HS H3 hrl rs zq
            obtain ⟨k, rs, last, p, gT, gS, hk, hgg, rfl, rfl, hrk, hlk, A⟩ := hrel
            by_cases hlt : k < N
            · obtain ⟨hat, hT⟩ := HH.out
              have hs : Mvs B M1 M2 q k w wr rs last p gT gS := A
              obtain ⟨⟨kd, id, eb, bs⟩, he⟩ : ∃ e, al[k]? = some e := ⟨_, List.getElem?_eq_getElem (by omega)⟩
              obtain ⟨b, o, ba, bc, rfl, -, c0, c1, c2, z0, z1, z2, z3, hbs⟩ := (hat.below hs.b).at he
              simp only at c0 c1 c2 z0 z1 z2 z3 hbs
              have zk : (k : Int) < (N : Int) := by omega
              have y6 : IntKind.i64.wrap ((k : Int) + 1) = (k : Int) + 1 := wrap_small (by omega) (by omega)
              have hw1 : ∀ ob, Below wr.heap.size wr (wr.alloc ob) := fun ob => (Below.refl _ _).alloc (Nat.le_refl _) _
              have hs1 := fun ob => hs.below (hw1 ob)
              have hof := fun ob => Of_any (.slice ba bs.length bc) bs (wr.alloc ob) (hbs.below (hw1 ob)) ((hT.below hs.b).below (hw1 ob))
              have zmk : (id % 40 : Int) ≤ 40 ∧ 0 ≤ id % 40 := by omega
              have YY : Hid (N - (k + 1) < gk ∧ k + 1 ≤ N ∧ rs.length + 1 ≤ 30 + (k + 1) ∧ last + 1 ≤ 30 + ((k + 1 : Nat) : Int) ∧ rs.length < 500 ∧ last ≤ 1000000000 ∧ rs.length ≤ 30 + (k + 1) ∧ last ≤ 30 + ((k + 1 : Nat) : Int)) := by
                refine ⟨?_, ?_, ?_, ?_, ?_, ?_, ?_, ?_⟩ <;> clear y6 <;> omega
              have hkm : k < maxLen := by clear y6; unfold maxLen; omega
              have zid : IntKind.i64.wrap (id % 40) = id % 40 := wrap_small (by clear y6; omega) (by clear y6; omega)
              have zidt : id.tmod 40 = id % 40 := Int.tmod_eq_emod_of_nonneg z2
              have zwid : (Lit.int .i64 (id % 40)).wf = true := wf_small (by clear y6 zid; omega) (by clear y6 zid; omega)
              clear hat hT hs he hbs hm0 hm1 hmn hc1 hc2 hNl hgg hlk hk hlt hrk
              by_cases hk0 : kd % 4 = 0
              · clear zid zidt zwid
                go_wp2_with fail
                refine (hof _).mono ?_
                rintro e w3 ⟨x, l, f, rfl, hnx, hrx, hb3⟩
                have h3 := (hs1 _).below hb3
                clear hof hb3
                go_wp2_with fail
                refine (InsH_any x l f w3 h3.h hrx.lies YY.out.2.2.2.2.1 YY.out.2.2.2.2.2.1).mono ?_
                rintro e w5 ⟨rfl, h5, hk5, hb5⟩
                have H5 : Hid (Mvs B M1 M2 q k w w5 (rs ++ [(last + 1, x)]) (last + 1) p gT gS) := h3.deed zB h5 hk5 hb5 (fun z hz => app_some h3.h.2.2.1 (h3.i2 z hz))
                clear h3 h5 hk5 hb5 hrx hnx hs1 hw1
                go_wp2
                go_roundg (N - (k + 1))
                case measure => exact YY.out.1
                case rel => exact ⟨k + 1, rs ++ [(last + 1, x)], last + 1, p, gT, gS, YY.out.2.1, Nat.le_refl _, by go_num, rfl, by rw [List.length_append]; exact YY.out.2.2.1, YY.out.2.2.2.1, H5.out.grow⟩

              · by_cases hk1 : kd % 4 = 1
                · clear hof
                  have hdel := fun ob => DelH_any (id % 40) (wr.alloc ob) (hs1 ob).h
                  go_wp2_with fail
                  refine (hdel _).mono ?_
                  rintro e w3 ⟨rfl, h3, hk3, hb3⟩
                  have q3 : w3.heap[wr.heap.size]? = some (.cells #[.int .u8 kd, .int .u8 id, .slice ba bs.length bc] 29 (0, 0)) := hk3 _ _ (heap_alloc_new wr _) (fun _ e => by cases e) (fun _ e => by cases e)
                  have d1 : w3.cell? ⟨wr.heap.size, 1, none⟩ = some (.int .u8 id) := by simp [World.cell?, q3]
                  obtain ⟨ct, hm3⟩ : ∃ ct, MapOn Value.bool w3 M1 q gT ct := ⟨_, map_kept (hs1 _).t.choose_spec hk3⟩
                  have H3 := (show Hid _ from And.intro (hs1 (.cells #[.int .u8 kd, .int .u8 id, .slice ba bs.length bc] 29)) (And.intro h3 (And.intro hk3 hb3)))
                  clear hdel h3 hk3 hb3 q3 hs1 hw1
                  go_wp2_with (first | (at_delete; refine wpList_mdel rfl _ _ 53 rfl 4 Tryd.underlying53 M1 q gT ct rfl hm3 (id % 40) zwid rfl ?_; intro w4 hm4 hg4) | fail)
                  have H5 : Hid (Mvs B M1 M2 q k w w4 (delR (id % 40) rs) last p (fun j => if j = id % 40 then none else gT j) gS) := Mvs.strike H3.out.1 zB H3.out.2.1 H3.out.2.2.1 H3.out.2.2.2 hm4 hg4 z12 zM1
                  clear hm3 hm4 hg4 H3 d1 zid zidt zwid
                  try go_frame
                  go_wp2
                  go_roundg (N - (k + 1))
                  case measure => exact YY.out.1
                  case rel => exact ⟨k + 1, delR (id % 40) rs, last, p, _, gS, YY.out.2.1, Nat.le_refl _, by go_num, rfl, by rw [len_delR]; exact Nat.le_trans (Nat.sub_le _ _) YY.out.2.2.2.2.2.2.1, YY.out.2.2.2.2.2.2.2, (H5.out).grow⟩

                · clear hof zid zidt zwid zmk
                  cases hnx : nextR p rs with
                  | none =>
                    have hcall := fun ob => NextH_none p (wr.alloc ob) (hs1 ob).h hnx
                    clear hnx
                    go_wp2_with fail
                    refine (hcall _).mono ?_
                    rintro e w3 ⟨rfl, hb3⟩
                    have H5 : ∀ ob, Hid (Mvs B M1 M2 q k w (w3.alloc ob) rs last p gT gS) := fun ob => ((hs1 _).below hb3).below ((Below.refl _ _).alloc (Nat.le_refl _) _)
                    clear hcall hb3 hs1 hw1
                    go_wp2
                    go_roundg (N - (k + 1))
                    case measure => exact YY.out.1
                    case rel => exact ⟨k + 1, rs, last, p, gT, gS, YY.out.2.1, Nat.le_refl _, by go_num, rfl, YY.out.2.2.2.2.2.2.1, YY.out.2.2.2.2.2.2.2, (H5 _).out.grow⟩
                  | some x =>
                    obtain ⟨xi, xv⟩ := x
                    have hcall := fun ob => NextH_some p (xi, xv) (wr.alloc ob) (hs1 ob).h hnx
                    have hA : Mvs B M1 M2 q k w wr rs last p gT gS := A
                    obtain ⟨hx1, hx2, hx3⟩ := next_someR hA.h.2.1 hnx
                    have hu := hA.h.2.2.1 _ (get_memR hx2)
                    have hl := RisesR.above hA.h.2.1 _ (get_memR hx2)
                    simp only at hx1 hx2 hx3 hu hl
                    have zle : ¬ xi ≤ p := by clear y6; omega
                    have hgS : gS xi = none := by
                      cases hg : gS xi with
                      | none => rfl
                      | some u => exact absurd (hA.i1 xi (by rw [hg]; rfl)) zle
                    have zwx : (Lit.int .i64 xi).wf = true := wf_small (by clear y6; omega) (by have := YY.out.2.2.2.2.2.2.2; clear y6; omega)
                    have HX : Hid (p < xi ∧ (getR xi rs).isSome = true ∧ ∀ j, p < j → j < xi → getR j rs = none) := ⟨hx1, by rw [hx2]; rfl, hx3⟩
                    clear hnx hA hx1 hx2 hx3 hu hl
                    go_wp2_with fail
                    refine (hcall _).mono ?_
                    rintro e w3 ⟨l, f, rfl, hl3, hb3⟩
                    obtain ⟨a1, e1, a2, e2, rfl, rfl⟩ := hl3.slices
                    have h3 := (hs1 _).below hb3
                    have h4 := fun ob => h3.below ((Below.refl w3.heap.size w3).alloc (Nat.le_refl _) ob)
                    obtain ⟨ct, hm3⟩ : ∃ ct, MapOn Value.bool w3 M2 k gS ct := h3.s
                    have hm4 := fun ob => map_kept hm3 (kept_alloc w3 ob)
                    have hlook := fun ob => (hm4 ob).look_run Tryd.underlying53 (zeroBool (w3.alloc ob)) zwx
                    rw [hgS] at hlook
                    simp only at hlook
                    have H4 := (show Hid _ from h4)
                    clear hcall hl3 hb3 hs1 hw1 h3 h4
                    go_wp2_with (first | (at_mapUpdate; refine wpList_mput rfl _ _ _ 53 rfl 4 Tryd.underlying53 M2 k gS ct rfl (hm4 _) hkm xi zwx rfl true rfl ?_; intro w5 hm5 hg5) | fail)
                    have H5 : Hid (Mvs B M1 M2 q (k + 1) w w5 rs last xi gT (fun j => if j = xi then some true else gS j)) := Mvs.step (H4.out _) hm5 hg5 z12 zM2 HX.out.1 HX.out.2.2
                    clear hm4 hm5 hg5 hlook hm3 H4
                    try go_frame
                    go_wp2
                    go_roundg (N - (k + 1))
                    case measure => exact YY.out.1
                    case rel => exact ⟨k + 1, rs, last, xi, gT, _, YY.out.2.1, Nat.le_refl _, by go_num, rfl, YY.out.2.2.2.2.2.2.1, YY.out.2.2.2.2.2.2.2, H5.out⟩

            · obtain rfl : k = N := by omega
              have zk : ¬ (k : Int) < (k : Int) := by omega
              have hA : Mvs B M1 M2 q k w wr rs last p gT gS := A
              obtain ⟨ct, hm⟩ := hA.t
              obtain ⟨w5, e5⟩ : ∃ w5, wr = w5 := ⟨_, rfl⟩
              rw [e5] at hA hm ⊢
              have H5 : Hid (Mvs B M1 M2 q k w w5 rs last p gT gS) := hA
              clear A hA e5 hm0 hm1 hmn hc1 hc2 hNl hgg hk hlt
              go_wp2_with (first | (at_range; refine wpList_mrange rfl _ 53 rfl 4 Tryd.underlying53 M1 q gT ct rfl hm ?_; intro w6 hr6 hg6 hz6) | fail)
              try go_frame
              have H6 := (show Hid _ from And.intro hr6 (And.intro hg6 hz6))
              clear hr6 hg6 hz6 hm
              go_loopg [16] ct (fun gg _ wr => ∃ (left : Int → Bool) (cnt : Nat), cnt ≤ gg ∧ Aside (RangeOn Value.bool wr M1 w5.heap.size q gT ct left cnt ∧ Below w5.heap.size w5 wr))
              case atStart => exact ⟨_, ct, Nat.le_refl _, H6.out.1, ⟨H6.out.2.1.os, H6.out.2.1.tape, H6.out.2.1.output, by have := H6.out.2.2; omega, fun b hb => H6.out.2.1.block b hb (by simp)⟩⟩
              case round =>
                obtain ⟨left, cnt, hcnt, AR⟩ := hrel
                have hrg : RangeOn Value.bool wr M1 w5.heap.size q gT ct left cnt := AR.out.1
                go_wp2_with (first | (at_next; refine wpList_mnext rfl _ rfl M1 w5.heap.size q gT ct left cnt rfl hrg ?_ ?_) | fail)
                · intro hl0
                  go_wp2
                  go_ret
                  exact ⟨rfl, H5.out.b.trans (AR.out.2.mono H5.out.b.size)⟩
                · intro i
                  refine ⟨?_, ?_⟩
                  all_goals
                    intro w7 cnt7 hwf hgi hli hr7 hlt7 hg7 hs7 hen
                    have hb57 : Below w5.heap.size w5 w7 := (AR.out.2).grown hg7 AR.out.2.size (fun kk e => by cases e; exact Nat.le_refl _)
                    have HN : Hid (cnt7 < gk ∧ RangeOn Value.bool w7 M1 w5.heap.size q gT ct (fun j => left j && !(j == i)) cnt7 ∧ Below w5.heap.size w5 w7) := ⟨by omega, hr7, hb57⟩
                    have hlook := (map_kept H5.out.s.choose_spec (below_kept hb57)).look_run Tryd.underlying53 (zeroBool w7) hwf
                    by_cases hip : i ≤ p
                    · rw [H5.out.i3 i (by rw [hgi]; rfl) hip] at hlook
                      simp only at hlook
                      clear hr7 hg7 hs7 hb57 hrg hli hlt7 hgi hcnt
                      go_wp2
                      go_roundg cnt7
                      case measure => exact HN.out.1
                      case rel => exact ⟨_, cnt7, Nat.le_refl _, HN.out.2.1, HN.out.2.2⟩
                    · clear hr7 hg7 hs7 hb57 hrg hli hlt7 hgi hcnt hlook
                      go_wp2
                      go_roundg cnt7
                      case measure => exact HN.out.1
                      case rel => exact ⟨_, cnt7, Nat.le_refl _, HN.out.2.1, HN.out.2.2⟩

end Go.Proofs.YtjihfbahcebljaaDoor
