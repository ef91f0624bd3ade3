/-
  IndexOne's walk. No conditions beyond those stated.
-/
import Derived.Test.YtfpkkobclkdniaaGreatDoorU24
import Derived.Test.YtfpkkobclkdniaaGreatDoorIFilled
import Derived.Test.YtfpkkobclkdniaaGreatDoorBSame
namespace Go.Proofs.YtfpkkobclkdniaaGreatDoor
open Go.RowKit

/-- the numbers that have been seen. -/
def seenE (l : List En) : Int → Option Bool := fun j => if l.any (fun y => y.2 == j) then some true else none
theorem seen_snoc {l : List En} {k : Nat} {x : En} (h : l[k]? = some x) (j : Int) : seenE (l.take (k + 1)) j = if j = x.2 then some true else seenE (l.take k) j := by
  unfold seenE
  rw [take_snoc h, List.any_append]
  by_cases e : j = x.2
  · subst e
    simp
  · rw [if_neg e]
    have e3 : List.any [x] (fun y => y.2 == j) = false := by
      simp
      exact fun e2 => e e2.symm
    rw [e3, Bool.or_false]
theorem seen_new {ps : List ByteArray} {rs : List Rec} {lo : Int} (hr : RisesR lo rs) {k : Nat} {x : En} (hx : (ofP ps rs)[k]? = some x) : seenE ((ofP ps rs).take k) x.2 = none := by
  unfold seenE
  refine if_neg fun h => ?_
  obtain ⟨y, hy, e⟩ := List.any_eq_true.1 h
  have hxy := ofP_id hr (List.mem_of_mem_take hy) (List.mem_of_getElem? hx) (by simpa using e)
  subst hxy
  obtain ⟨j, hj⟩ := List.getElem?_of_mem hy
  rw [List.getElem?_take] at hj
  split at hj
  · rename_i hlt
    have hnd : (ofP ps rs).Nodup := (ofP_sort ps rs).imp fun h => ltE_ne h
    have := (List.getElem?_inj (List.getElem?_eq_some_iff.1 hj).1 hnd).1 (hj.trans hx.symm)
    omega
  · cases hj
theorem seen_all {ps : List ByteArray} {rs : List Rec} {lo : Int} (hr : RisesR lo rs) {i : Int} {v : V} (hv : getR i rs = some v) : seenE (ofP ps rs) i = if (keyP ps v).isSome then some true else none := by
  unfold seenE
  by_cases h : (keyP ps v).isSome = true
  · obtain ⟨y, hy, e⟩ := (ofP_key hr hv).1 h
    rw [if_pos h, if_pos (List.any_eq_true.2 ⟨y, hy, by simpa using e⟩)]
  · rw [if_neg h]
    refine if_neg fun h2 => ?_
    obtain ⟨y, hy, e⟩ := List.any_eq_true.1 h2
    exact h ((ofP_key hr hv).2 ⟨y, hy, by simpa using e⟩)
theorem zeroValueB (w : World) : (zeroValue 4).run Tryz.prog w = .ok (.bool false) w := by kernel_rfl
theorem box2O {w W : World} {a b : Value} (h : w.alloc (.cells #[a, b] 58) = W) : Below w.heap.size w W ∧ W.heap[w.heap.size]? = some (.cells #[a, b] 58 (0, 0)) := by
  subst h
  exact ⟨(Below.refl _ _).alloc (Nat.le_refl _) _, heap_alloc_new _ _⟩
theorem row2O {w : World} {b t : Nat} {u v : Value} (hr : w.heap[b]? = some (.cells #[u, v] t (0, 0))) : w.cell? ⟨b, 0, none⟩ = some u ∧ w.cell? ⟨b, 1, none⟩ = some v ∧ ∀ j, w.frozen? ⟨b, j, none⟩ = false := by
  refine ⟨by simp [World.cell?, hr], by simp [World.cell?, hr], fun j => ?_⟩
  simp [World.frozen?, hr]
/-- the loop over the entries: what stays, what has been seen. -/
structure One1 (w4 w6 wr : World) (S : Nat) (l : List En) (k : Nat) : Prop where
  below : Below w4.heap.size w4 wr
  cells : Cells w6 wr
  seen : ∃ c, MapOn Value.bool wr S k (seenE (l.take k)) c
set_option maxRecDepth 100000 in
set_option maxHeartbeats 16000000 in
theorem IndexOne_walk (n : Int) (h0 : 0 ≤ n) (v1 : Value) (ls : List (List UInt8)) (w : World) (hl : BssAt w v1 ls) (hE : PEnv w ∧ Tabs w) :
    Calls Tryz.prog 7 #[.int .u8 n, v1] w fun e w' => e = .returned (.bool true) ∧ Below w.heap.size w w' := by
  obtain ⟨hE, hT⟩ := hE
  obtain ⟨nm, path, uu, ps, Sp⟩ := specK n h0 false
  have haw := iawake_true w hE
  obtain ⟨la, lcap, rfl, -, -⟩ := hl.slice
  have HH := (show Hid _ from And.intro hl (And.intro hE (And.intro hT Sp)))
  have hmm := @run_makeMap Tryz.prog
  clear hl hE hT Sp
  go_enter Tryz.func7, Tryz.ntmps7
  go_wp2_with fail
  refine haw.mono ?_
  rintro e w1 ⟨rfl, hb1⟩
  have hsp := HH.out.2.2.2.spec w1
  have H1 := (show Hid _ from hb1)
  clear haw hb1
  go_wp2_with fail
  refine hsp.mono ?_
  rintro e w2 ⟨rfl, hb2⟩
  obtain ⟨W3, hW3⟩ : ∃ W, w2.alloc (.cells #[.string nm, .string path, .bool uu] 23) = W := ⟨_, rfl⟩
  obtain ⟨hb3, r3⟩ := box3 hW3
  obtain ⟨hl, hE, hT, -⟩ := HH.out
  have hB3 := (H1.out.trans (hb2.mono H1.out.size)).trans (hb3.mono (Nat.le_trans H1.out.size hb2.size))
  have hfil := Filled_any _ ls W3 (hl.below hB3) (hT.below hB3)
  obtain ⟨B, hBd⟩ : ∃ B, W3.heap.size = B := ⟨_, rfl⟩
  obtain ⟨q, hq⟩ : ∃ q, min 30 ls.length = q := ⟨_, rfl⟩
  rw [hBd, hq] at hfil
  have H3 := (show Hid _ from And.intro hB3 (And.intro r3 (And.intro (hE.below hB3) (show q ≤ 30 by omega))))
  clear hsp hb2 hb3 r3 hl hE hT hB3 H1 hBd hq
  go_wp2_with fail
  clear hW3
  refine hfil.mono ?_
  rintro e w4 ⟨M, rs, rfl, h4, f4⟩
  obtain ⟨W5, hW5⟩ : ∃ W, w4.alloc (.map #[] 0) = W := ⟨_, rfl⟩
  have hb5 : Below w4.heap.size w4 W5 := by rw [← hW5]; exact (Below.refl _ _).alloc (Nat.le_refl _) _
  have hm5 : MapOn Value.bool W5 w4.heap.size 0 (seenE []) 0 := by rw [← hW5]; exact MapOn.made w4
  obtain ⟨S, hS⟩ : ∃ S, w4.heap.size = S := ⟨_, rfl⟩
  rw [hS] at hm5
  have hz5 : S < W5.heap.size := hm5.lt
  obtain ⟨hB3, r3, hE3, hq30⟩ := H3.out
  have h5 := h4.below hb5
  have s5 := (h5.b.block _ (lt_of_heap r3)).trans r3
  obtain ⟨b0, b1, b2, bf⟩ := row3 s5
  have hof := HH.out.2.2.2.of _ B rs _ W5 (hE3.below h5.b) h5.h f4.nice
  have hln := ofP_len ps rs
  have hll : (ofP ps rs).length ≤ 30 := by have := f4.len; omega
  obtain ⟨L, hL⟩ : ∃ L, ofP ps rs = L := ⟨_, rfl⟩
  rw [hL] at hof hll
  have H5 := (show Hid _ from And.intro h4 (And.intro f4 (And.intro hb5 (And.intro hm5 (And.intro hz5 (And.intro hL (And.intro hll (And.intro s5 (And.intro hS hq30)))))))))
  clear hfil h4 f4 hb5 hm5 hz5 hB3 r3 hE3 hq30 h5 s5 hL hll hln
  go_wp2_with fail
  try rw [hW5]
  try rw [hS]
  clear hW5 hS hmm
  refine hof.mono ?_
  rintro e w6 ⟨va, rfl, how⟩
  obtain ⟨N, hN⟩ : ∃ N, L.length = N := ⟨_, rfl⟩
  obtain ⟨oa, oc, rfl⟩ := how.slice
  rw [hN]
  have hN30 : N ≤ 30 := by have := H5.out.2.2.2.2.2.2.1; omega
  have H6 := (show Hid _ from And.intro how hN)
  clear hof how hN b0 b1 b2 bf
  go_wp2_with fail
  go_loopg [10, 11, 12, 40] N (fun gg _ _ _ i wr => ∃ k : Nat, k ≤ N ∧ N - k ≤ gg ∧ i = .int .i64 k ∧ Aside (One1 w4 w6 wr S L k))
  case atStart =>
    obtain ⟨h4, f4, hb5, hm5, hz5, -⟩ := H5.out
    have hb6 := H6.out.1.below
    exact ⟨0, Nat.zero_le _, by omega, rfl, hb5.trans (hb6.mono hb5.size), Cells.refl _, 0, map_kept hm5 (below_kept hb6)⟩
  case round =>
    obtain ⟨k, hk, hgg, rfl, A⟩ := hrel
    have O1 : One1 w4 w6 wr S L k := A.out
    by_cases hlt : k < N
    · obtain ⟨h4, f4, hb5, hm5, hz5, hL, hll, s5, hS, hq30⟩ := H5.out
      obtain ⟨how, hN⟩ := H6.out
      obtain ⟨⟨xk, xi⟩, hx⟩ : ∃ x, L[k]? = some x := ⟨_, List.getElem?_eq_getElem (by omega)⟩
      have hown := ownsRow_cells O1.cells how.own
      obtain ⟨Bb, cc, hv, hc1, hc2, e0, e1, ef⟩ := row_entry hown hx
      rw [hN] at hv
      simp only [Value.slice.injEq, true_and] at hv
      obtain ⟨rfl, rfl⟩ := hv
      rw [hN] at hc1
      dsimp only at e0 e1
      have hr := h4.h.2.1
      obtain ⟨v, hgv, hkv⟩ := (ofP_get hr).1 (by rw [hL]; exact List.mem_of_getElem? hx : (xk, xi) ∈ ofP ps rs)
      dsimp only at hgv hkv
      have hi1 := RisesR.above hr _ (get_memR hgv)
      have hi2 := f4.up _ (get_memR hgv)
      dsimp only at hi1 hi2
      have zwf : (Lit.int .i64 xi).wf = true := wf_small (by omega) (by omega)
      obtain ⟨W7, hW7⟩ : ∃ W, wr.alloc (.cells #[.string xk, .int .i64 xi] 58) = W := ⟨_, rfl⟩
      obtain ⟨hb7, r7⟩ := box2O hW7
      obtain ⟨hM, g, hm4, hg4⟩ := h4.p
      have hb47 := O1.below.trans (hb7.mono O1.below.size)
      have hm7 := map_kept hm4 (below_kept hb47)
      obtain ⟨mv, hmv, hvv⟩ : ∃ m, g xi = some m ∧ m.v = v := by
        have h1 := (hg4 xi).1
        rw [hgv] at h1
        cases hgj : g xi with
        | none => rw [hgj] at h1; cases h1
        | some m => rw [hgj] at h1; exact ⟨m, rfl, by simpa using h1⟩
      subst hvv
      have hlm := ((hg4 xi).2 mv hmv).below hb47
      have s7 := (hb7.block _ (lt_of_heap ((O1.cells _ _ _ ((how.below.block _ (lt_of_heap s5)).trans s5)).trans ((how.below.block _ (lt_of_heap s5)).trans s5)))).trans ((O1.cells _ _ _ ((how.below.block _ (lt_of_heap s5)).trans s5)).trans ((how.below.block _ (lt_of_heap s5)).trans s5))
      obtain ⟨a0, a1, a2, af⟩ := row3 s7
      obtain ⟨x0, x1, xf⟩ := row2O r7
      have hE7 : PEnv W7 := H3.out.2.2.1.below (h4.b.trans (hb47.mono h4.b.size))
      have hkey := HH.out.2.2.2.key 3 mv.v _ _ W7 hE7 hlm (nice_get f4.nice hgv)
      rw [hkv] at hkey
      have hkey' : Calls Tryz.prog 13 #[.agg #[.string nm, .string path, .bool uu], .agg #[.int .i64 mv.v.kind, .int .i64 mv.v.num, .string mv.v.text, .slice mv.al mv.v.list.length mv.cl, .slice mv.af mv.v.fields.length mv.cf]] W7 fun e w' => e = .returned (.tuple #[.string xk, .bool true]) ∧ Below W7.heap.size W7 w' := hkey
      have zk : (k : Int) < (N : Int) := by omega
      obtain ⟨c, hms⟩ := O1.seen
      have hnew := seen_new hr (by rw [hL]; exact hx : (ofP ps rs)[k]? = some (xk, xi))
      rw [hL] at hnew
      have H7 := (show Hid _ from And.intro hb47 (And.intro (O1.cells.trans (below_cells hb7)) (And.intro (map_kept hms (below_kept hb7)) (And.intro hnew (And.intro r7 (And.intro hx (And.intro zwf (show k < maxLen by unfold maxLen; omega))))))))
      clear h4 f4 hb5 hm5 hz5 hL hll s5 hS hq30 how hN hown hc1 hc2 hr hgv hkv hi1 hi2 hb7 r7 hM hm4 hg4 hb47 hlm s7 hE7 hkey hms hnew hx O1 A
      go_wp2_with (first | (at_lookup; (try rw [hW7]); clear hW7; refine wpList_mlook_some rfl _ _ 47 rfl 40 Tryz.underlying47 (zeroValueV _) M q g rs.length rfl hm7 xi zwf rfl mv hmv ?_; unfold mkV) | fail)
      refine hkey'.mono ?_
      rintro e w8 ⟨rfl, hb8⟩
      clear hkey' hm7 hmv zwf a0 a1 a2 af x0 x1 xf e0 e1 ef
      obtain ⟨hb47, hc7, hms, hnew, r7, hx, zwf, hml⟩ := H7.out
      have hms8 := map_kept hms (below_kept hb8)
      obtain ⟨x0, x1, xf⟩ := row2O ((hb8.block _ (lt_of_heap r7)).trans r7)
      have H8 := (show Hid _ from And.intro (hb47.trans (hb8.mono hb47.size)) (And.intro (hc7.trans (below_cells hb8)) hx))
      have HM := (show Hid _ from And.intro hml zwf)
      clear hb47 hc7 hms r7 hx hml zwf hb8 H7
      go_wp2_with (first | (at_lookup; refine wpList_mlook_none rfl _ _ 62 rfl 4 Tryz.underlying62 (zeroValueB _) S k (seenE (L.take k)) c rfl hms8 xi HM.out.2 rfl hnew ?_) | (at_mapUpdate; refine wpList_mput rfl _ _ _ 62 rfl 4 Tryz.underlying62 S k (seenE (L.take k)) c rfl hms8 HM.out.1 xi HM.out.2 rfl true rfl ?_; intro w9 hm9 hg9; have H9 := (show Hid _ from And.intro hm9 (And.intro hg9 (cells_put hms8 hg9))); clear hm9 hg9 hms8) | fail)
      go_roundg (N - (k + 1))
      case measure => omega
      case rel =>
        obtain ⟨hb8, hc8, hx⟩ := H8.out
        obtain ⟨hm9, hg9, hc9⟩ := H9.out
        have hS := H5.out.2.2.2.2.2.2.2.2.1
        exact ⟨k + 1, Nat.succ_le_of_lt hlt, Nat.le_refl _, by go_num, hb8.grown hg9 hb8.size (fun k e => by cases e; exact Nat.le_of_eq hS), hc8.trans hc9, _, hm9.alter (fun j => (seen_snoc hx j).symm) rfl⟩
    · have zk : ¬ (k : Int) < (N : Int) := by omega
      have hkN : k = N := by omega
      obtain ⟨h4, f4, hb5, hm5, hz5, hL, hll, s5, hS, hq30⟩ := H5.out
      obtain ⟨how, hN⟩ := H6.out
      obtain ⟨c, hms⟩ := O1.seen
      rw [hkN, ← hN, List.take_length] at hms
      rw [hN] at hms
      obtain ⟨wA, hwA⟩ : ∃ w', wr = w' := ⟨_, rfl⟩
      rw [hwA] at O1 hms ⊢
      obtain ⟨hM, g, hm4, hg4⟩ := h4.p
      have hb4A := O1.below
      have hmA := map_kept hm4 (below_kept hb4A)
      have s6 := (how.below.block _ (lt_of_heap s5)).trans s5
      have sA := (O1.cells _ _ _ s6).trans s6
      have HA := (show Hid _ from And.intro hb4A (And.intro sA (And.intro hms (And.intro (hg4.kept (below_kept hb4A)) (And.intro (fun i v hv => (by have := seen_all (ps := ps) h4.h.2.1 hv; rwa [hL] at this) : ∀ i v, getR i rs = some v → seenE L i = if (keyP ps v).isSome then some true else none) (And.intro f4 h4.b))))))
      clear h4 f4 hb5 hm5 hz5 hL hll s5 hS hq30 how hN hms hwA hM hm4 hg4 hb4A s6 sA O1 A H5 H6 hkN
      go_wp2_with (first | (at_range; refine wpList_mrange rfl _ 47 rfl 40 Tryz.underlying47 M q g rs.length rfl hmA ?_; intro w10 hr10 hg10 hz10) | fail)
      try go_frame
      have H10 := (show Hid _ from And.intro hr10 (And.intro hg10 hz10))
      clear hr10 hg10 hz10 hmA
      go_loopg [13, 14, 15, 16] rs.length (fun gg _ _ _ _ wq => ∃ (left : Int → Bool) (cnt : Nat), cnt ≤ gg ∧ Aside (RangeOn mkV wq M wA.heap.size q g rs.length left cnt ∧ Below wA.heap.size wA wq))
      case atStart => exact ⟨_, rs.length, Nat.le_refl _, H10.out.1, ⟨H10.out.2.1.os, H10.out.2.1.tape, H10.out.2.1.output, by have := H10.out.2.2; omega, fun b hb => H10.out.2.1.block b hb (by simp)⟩⟩
      case round =>
        obtain ⟨left, cnt, hcnt, AR⟩ := hrel
        have hrg : RangeOn mkV wr M wA.heap.size q g rs.length left cnt := AR.out.1
        go_wp2_with (first | (at_next; refine wpList_mnext rfl _ rfl M wA.heap.size q g rs.length left cnt rfl hrg ?_ ?_) | fail)
        · intro hl0
          clear hl0 hrg
          go_wp2
          go_ret
          obtain ⟨hb4A, -, -, -, -, -, hb34⟩ := HA.out
          have hw := hb34.trans ((hb4A.trans (AR.out.2.mono hb4A.size)).mono hb34.size)
          exact ⟨rfl, H3.out.1.trans (hw.mono H3.out.1.size)⟩
        · intro i u w7 cnt7 hwf hgi hli hr7 hlt7 hg7 hs7 hen
          obtain ⟨v, ual, ucl, uaf, ucf⟩ := u
          have hen' : (Instr.entry (.pointer (some ⟨wA.heap.size, 0, none⟩))).run Tryz.prog w7 = .ok (.tuple #[.int .i64 i, .agg #[.int .i64 v.kind, .int .i64 v.num, .string v.text, .slice ual v.list.length ucl, .slice uaf v.fields.length ucf]]) w7 := hen
          obtain ⟨hb4A, sA, hms, hg4, hseen, f4, hb34⟩ := HA.out
          have hb7 : Below wA.heap.size wA w7 := (AR.out.2).grown hg7 AR.out.2.size (fun kk e => by cases e; exact Nat.le_refl _)
          obtain ⟨W8, hW8⟩ : ∃ W8, w7.alloc (.cells #[.int .i64 v.kind, .int .i64 v.num, .string v.text, .slice ual v.list.length ucl, .slice uaf v.fields.length ucf] 40) = W8 := ⟨_, rfl⟩
          obtain ⟨hb8, r8⟩ := box5 hW8
          have hbA8 := hb7.trans (hb8.mono hb7.size)
          have hgr : getR i rs = some v := by have := (hg4 i).1; rw [hgi] at this; exact this.symm
          have hl8 : Lies 3 W8 v (.slice ual v.list.length ucl) (.slice uaf v.fields.length ucf) := ((hg4 i).2 _ hgi).below hbA8
          have s8 := (hbA8.block _ (lt_of_heap sA)).trans sA
          obtain ⟨a0, a1, a2, af⟩ := row3 s8
          obtain ⟨x0, x1, x2, x3, x4, xf⟩ := row5 r8
          have hb48 := hb4A.trans (hbA8.mono hb4A.size)
          have hE8 : PEnv W8 := H3.out.2.2.1.below (hb34.trans (hb48.mono hb34.size))
          have hk := HH.out.2.2.2.key 3 v _ _ W8 hE8 hl8 (nice_get f4.nice hgr)
          have hsn := hseen i v hgr
          obtain ⟨o, ho⟩ : ∃ o, keyP ps v = o := ⟨_, rfl⟩
          rw [ho] at hk hsn
          have H8 := (show Hid _ from And.intro hbA8 (And.intro hr7 (And.intro hb8 (And.intro (map_kept hms (below_kept hbA8)) hwf))))
          have zlt : cnt7 + 1 ≤ gk := by omega
          clear hb4A sA hms hg4 hseen f4 hb34 hb7 hb8 r8 hbA8 hgr hl8 s8 hb48 hE8 ho hrg hli hr7 hg7 hs7 hen hgi hcnt hwf hlt7
          cases o with
          | none =>
            go_wp2_with fail
            clear hW8
            refine hk.mono ?_
            rintro e w9 ⟨he, hb9⟩
            obtain rfl : e = .returned (.tuple #[.string ⟨#[]⟩, .bool false]) := he
            have hms9 := map_kept H8.out.2.2.2.1 (below_kept hb9)
            have hsn' : seenE L i = none := hsn
            have H9 := (show Hid _ from hb9)
            clear hk hb9 a0 a1 a2 af x0 x1 x2 x3 x4 xf hsn
            go_wp2_with (first | (at_lookup; refine wpList_mlook_none rfl _ _ 62 rfl 4 Tryz.underlying62 (zeroValueB _) S N (seenE L) c rfl hms9 i H8.out.2.2.2.2 rfl hsn' ?_) | fail)
            go_roundg cnt7
            case measure => omega
            case rel =>
              obtain ⟨hbA8, hr7, hb8, -⟩ := H8.out
              exact ⟨_, cnt7, Nat.le_refl _, range_below hr7 (hb8.trans (H9.out.mono hb8.size)), hbA8.trans (H9.out.mono hbA8.size)⟩
          | some ky =>
            go_wp2_with fail
            clear hW8
            refine hk.mono ?_
            rintro e w9 ⟨he, hb9⟩
            obtain rfl : e = .returned (.tuple #[.string ky, .bool true]) := he
            have hms9 := map_kept H8.out.2.2.2.1 (below_kept hb9)
            have hsn' : seenE L i = some true := hsn
            have H9 := (show Hid _ from hb9)
            clear hk hb9 a0 a1 a2 af x0 x1 x2 x3 x4 xf hsn
            go_wp2_with (first | (at_lookup; refine wpList_mlook_some rfl _ _ 62 rfl 4 Tryz.underlying62 (zeroValueB _) S N (seenE L) c rfl hms9 i H8.out.2.2.2.2 rfl true hsn' ?_) | fail)
            go_roundg cnt7
            case measure => omega
            case rel =>
              obtain ⟨hbA8, hr7, hb8, -⟩ := H8.out
              exact ⟨_, cnt7, Nat.le_refl _, range_below hr7 (hb8.trans (H9.out.mono hb8.size)), hbA8.trans (H9.out.mono hbA8.size)⟩
end Go.Proofs.YtfpkkobclkdniaaGreatDoor
