/-
  HeapOther's walk. No conditions beyond those stated.
-/
import Derived.Test.YtjihfbahcebljaaDoorHLoop
namespace Go.Proofs.YtjihfbahcebljaaDoor
open Go.RowKit

set_option maxRecDepth 100000 in
set_option maxHeartbeats 8000000 in
theorem HeapOther_walk (v0 v1 : Value) (acts : List Ac) (bs1 : List UInt8) (c2 : Int) (wc2 : (Lit.int .u8 c2).wf = true) (w : World) (ha : ActsAt w v0 acts) (hb1 : BytesAt w v1 bs1) (hT : Tabs w) :
    Calls Tryd.prog 6 #[v0, v1, .int .u8 c2] w fun e w' => e = .returned (.bool true) ∧ Below w.heap.size w w' := by
  obtain ⟨a, cap, rfl, hc1, hc2⟩ := ha.slice
  have hat := ha.take 60
  obtain ⟨N, hN⟩ : ∃ N, min 60 acts.length = N := ⟨_, rfl⟩
  rw [hN] at hat
  have hNl : (acts.take 60).length = N := by rw [List.length_take, hN]
  obtain ⟨al, has⟩ : ∃ al, acts.take 60 = al := ⟨_, rfl⟩
  rw [has] at hat hNl
  have hm0 : 0 ≤ min (acts.length : Int) 60 := by omega
  have hm1 : min (acts.length : Int) 60 ≤ (cap : Int) := by omega
  have hmn : (min (acts.length : Int) 60).toNat = N := by omega
  have hN80 : N ≤ 60 := by omega
  obtain ⟨b1, n1, rfl⟩ : ∃ b1 n1, v1 = .slice b1 bs1.length n1 := by obtain ⟨b1, n1, h, _⟩ := hb1; exact ⟨_, _, h⟩
  have hc0 : 0 ≤ c2 := by
    simp only [Lit.wf, Bool.and_eq_true, decide_eq_true_eq] at wc2
    have h1 : IntKind.u8.min = 0 := rfl
    omega
  have HH := (show Hid _ from And.intro hat (And.intro hb1 hT))
  have haw := hawake_true w
  have hmm := @run_makeMap Tryd.prog
  clear hat ha hT has hN hb1 wc2
  go_enter Tryd.func6, Tryd.ntmps6
  go_wp2_with fail
  refine haw.mono ?_
  rintro e w1 ⟨rfl, hB1⟩
  clear haw
  go_wp2_with fail
  refine (NewH_any w1).mono ?_
  rintro e w2 ⟨rfl, h2, hb2⟩
  obtain ⟨B, hBd⟩ : ∃ B, w1.heap.size = B := ⟨_, rfl⟩
  rw [hBd] at h2
  have hB2 : Below w.heap.size w w2 := hB1.trans (hb2.mono hB1.size)
  have zB : w.heap.size ≤ B := by have := hB1.size; omega
  have hw2 : Below w2.heap.size w2 (w2.alloc (.map #[] 0)) := (Below.refl _ _).alloc (Nat.le_refl _) _
  have H2 : Hid (Lop B w2.heap.size w (w2.alloc (.map #[] 0)) [] 0 0) := ⟨h2.below hw2, pair_made h2.base_le, hB2.trans (hw2.mono hB2.size)⟩
  obtain ⟨M, hM⟩ : ∃ M, w2.heap.size = M := ⟨_, rfl⟩
  rw [hM] at H2
  rw [hBd]
  clear h2 hB2 hb2 hBd hB1 hw2
  go_wp2_with fail
  try rw [hM]
  go_loopg [9, 11, 12, 13, 31] N (fun gg s9 _ _ _ i wr => ∃ (k : Nat) (rs : List Rec) (last : Int), k ≤ N ∧ N - k ≤ gg ∧ i = .int .i64 k ∧ s9 = .int .i64 last ∧ last ≤ k ∧ rs.length ≤ k ∧ Aside (Lop B M w wr rs last k))
  case atStart => exact ⟨0, [], 0, Nat.zero_le _, by omega, rfl, rfl, by simp, by simp, H2⟩
  case round =>
    obtain ⟨k, rs, last, hk, hgg, rfl, rfl, hlk, hrk, A⟩ := hrel
    by_cases hlt : k < N
    · obtain ⟨hat, hb1, hT⟩ := HH.out
      have hs : Lop B M w wr rs last k := A
      obtain ⟨⟨kd, id, eb, bs⟩, he⟩ : ∃ e, al[k]? = some e := ⟨_, List.getElem?_eq_getElem (by omega)⟩
      obtain ⟨b, o, ba, bc, rfl, -, c0, c1, c2, z0, z1, z2, z3, hbs⟩ := (hat.below hs.b).at he
      simp only at c0 c1 c2 z0 z1 z2 z3 hbs
      have zk : (k : Int) < (N : Int) := by omega
      have hw1 : ∀ ob, Below wr.heap.size wr (wr.alloc ob) := fun ob => (Below.refl _ _).alloc (Nat.le_refl _) _
      have hdo := fun ob => do_any kd id bs ba bc (wr.alloc ob) (hs.below (hw1 ob)).h (hs.below (hw1 ob)).p (by omega) (by omega) (by omega) z0 z2 (hbs.below (hw1 ob)) ((hT.below hs.b).below (hw1 ob))
      clear hat hb1 hT hs he hbs
      go_wp2_with fail
      refine (hdo _).mono ?_
      rintro e w3 ⟨rs', last', rfl, h3, hp3, hb3, hl3, hr3⟩
      have hs : Lop B M w wr rs last k := A
      have H4 : Hid (Lop B M w w3 rs' last' (k + 1)) := ⟨h3, hp3, (hs.below (hw1 _)).b.trans (hb3.mono zB)⟩
      clear hdo h3 hp3 hb3 hs hw1
      go_wp2
      go_roundg (N - (k + 1))
      case measure => omega
      case rel => exact ⟨k + 1, rs', last', by omega, by omega, by go_num, rfl, by omega, by omega, H4⟩
    · obtain rfl : k = N := by omega
      have zk : ¬ (k : Int) < (k : Int) := by omega
      have hs : Lop B M w wr rs last k := A
      obtain ⟨hat, hb1, hT⟩ := HH.out
      have hof := Of_any (.slice b1 bs1.length n1) bs1 wr (hb1.below hs.b) (hT.below hs.b)
      obtain ⟨q, hq⟩ : ∃ q, c2 % 24 = q := ⟨_, rfl⟩
      have zc := wrap24 hc0
      have zct := wrap24t hc0
      rw [hq] at zc zct
      have zq0 : 0 ≤ q := by omega
      have zq1 : wrap64 (q + 1) = q + 1 := by unfold wrap64; omega
      have zt : c2.tmod 24 = c2 % 24 := Int.tmod_eq_emod_of_nonneg hc0
      clear hat hb1 hT hs
      go_wp2_with fail
      refine hof.mono ?_
      rintro e w3 ⟨x, l, f, rfl, hnx, hrx, hb3⟩
      have hs : Lop B M w wr rs last k := A
      have h3 := hs.below hb3
      clear hof hs
      go_wp2_with fail
      refine (SetH_any q x l f w3 h3.h hrx.lies).mono ?_
      rintro e w4 ⟨rfl, h4, hk34, hb34⟩
      go_wp2_with fail
      refine (DelH_any (q + 1) w4 h4).mono ?_
      rintro e w5 ⟨rfl, h5, hk45, hb45⟩
      have hp5 : Pair B w5 M k rs := (h3.p.kept hk34).kept hk45
      have hB5 : Below w.heap.size w w5 := h3.b.trans ((hb34.trans hb45).mono zB)
      have hget : ∀ i, i ≠ q → i ≠ q + 1 → getR i (delR (q + 1) (setR q x rs)) = getR i rs := fun i h1 h2 => by
        rw [get_delR (rises_setR h3.h.2.1), if_neg h2, get_setR, if_neg h1]
      obtain ⟨hM5, g, hm5, hg5⟩ := hp5
      have H5 := (show Hid _ from And.intro h5 (And.intro hB5 (And.intro hg5 hget)))
      clear h3 hrx hnx hb3 h4 hk34 hb34 hk45 hb45 h5 hB5 hg5 hget
      go_wp2_with (first | (at_range; refine wpList_mrange rfl _ 26 rfl 38 Tryd.underlying26 M k g rs.length rfl hm5 ?_; intro w6 hr6 hg6 hz6) | fail)
      go_frame
      have H6 := (show Hid _ from And.intro hr6 (And.intro hg6 hz6))
      clear hr6 hg6 hz6 hm5
      go_loopg [15, 16, 17, 18] rs.length (fun gg _ _ _ _ wq => ∃ (left : Int → Bool) (cnt : Nat), cnt ≤ gg ∧ Aside (RangeOn mkV wq M w5.heap.size k g rs.length left cnt ∧ Below w5.heap.size w5 wq))
      case atStart => exact ⟨_, rs.length, Nat.le_refl _, H6.out.1, ⟨H6.out.2.1.os, H6.out.2.1.tape, H6.out.2.1.output, by have := H6.out.2.2; omega, fun b hb => H6.out.2.1.block b hb (by simp)⟩⟩
      case round =>
        obtain ⟨left, cnt, hcnt, AR⟩ := hrel
        have hrg : RangeOn mkV wr M w5.heap.size k g rs.length left cnt := AR.out.1
        go_wp2_with (first | (at_next; refine wpList_mnext rfl _ rfl M w5.heap.size k g rs.length left cnt rfl hrg ?_ ?_) | fail)
        · intro hl0
          go_wp2
          go_ret
          exact ⟨rfl, H5.out.2.1.trans (AR.out.2.mono H5.out.2.1.size)⟩
        · intro i u w7 cnt7 hwf hgi hli hr7 hlt7 hg7 hs7 hen
          obtain ⟨h5, hB5, hg5, hget⟩ := H5.out
          obtain ⟨u, ual, ucl, uaf, ucf⟩ := u
          have hen' : (Instr.entry (.pointer (some ⟨w5.heap.size, 0, none⟩))).run Tryd.prog w7 = .ok (.tuple #[.int .i64 i, .agg #[.int .i64 u.kind, .int .i64 u.num, .string u.text, .slice ual u.list.length ucl, .slice uaf u.fields.length ucf]]) w7 := hen
          have hb57 : Below w5.heap.size w5 w7 := (AR.out.2).grown hg7 AR.out.2.size (fun kk e => by cases e; exact Nat.le_refl _)
          have hw7 : ∀ ob, Below w7.heap.size w7 (w7.alloc ob) := fun ob => (Below.refl _ _).alloc (Nat.le_refl _) _
          have hu7 : Lies 3 w7 u (.slice ual u.list.length ucl) (.slice uaf u.fields.length ucf) := ((hg5 i).2 _ hgi).below hb57
          have hgr : getR i rs = some u := by have := (hg5 i).1; rw [hgi] at this; exact this.symm
          have h7 := h5.below hb57
          have hgt := fun ob => GetH_any i (w7.alloc ob) (h7.below (hw7 ob))
          have hgq := hget i
          have HN := (show Hid _ from And.intro hr7 (And.intro hb57 hu7))
          have zlt : cnt7 + 1 ≤ gk := by omega
          clear hr7 hg7 hs7 hen hb57 hu7 h7 h5 hB5 hg5 hget hrg hli hlt7 hcnt
          unfold mkV
          by_cases hi1 : i = q
          · subst hi1
            clear hgq hgr
            go_wp2_with fail
            refine (hgt _).mono ?_
            rintro e w8 ⟨l, f, rfl, hl8, hb8⟩
            obtain ⟨a1, c1, a2, c2, rfl, rfl⟩ := hl8.slices
            have hb78 : ∀ ob, Below w7.heap.size w7 (w8.alloc ob) := fun ob => ((hw7 _).trans (hb8.mono (hw7 _).size)).alloc (by have := (hw7 (.map #[] 0)).size; have := hb8.size; simp at *; omega) _
            have H8 := (show Hid _ from hb78)
            clear hl8 hb8 hgt hb78
            go_wp2
            go_roundg cnt7
            case measure => omega
            case rel => exact ⟨_, cnt7, Nat.le_refl _, range_below HN.out.1 (H8.out _), HN.out.2.1.trans (((H8.out _)).mono HN.out.2.1.size)⟩
          · by_cases hi2 : i = q + 1
            · subst hi2
              have zne : (q + 1 != q) = true := by simp; omega
              clear hgq hgr
              go_wp2_with fail
              refine (hgt _).mono ?_
              rintro e w8 ⟨l, f, rfl, hl8, hb8⟩
              obtain ⟨a1, c1, a2, c2, rfl, rfl⟩ := hl8.slices
              have hb78 : ∀ ob, Below w7.heap.size w7 (w8.alloc ob) := fun ob => ((hw7 _).trans (hb8.mono (hw7 _).size)).alloc (by have := (hw7 (.map #[] 0)).size; have := hb8.size; simp at *; omega) _
              have H8 := (show Hid _ from hb78)
              clear hl8 hb8 hgt hb78
              go_wp2
              go_roundg cnt7
              case measure => omega
              case rel => exact ⟨_, cnt7, Nat.le_refl _, range_below HN.out.1 (H8.out _), HN.out.2.1.trans (((H8.out _)).mono HN.out.2.1.size)⟩
            · rw [hgq hi1 hi2, hgr] at hgt
              have zne1 : (i != q) = true := by simpa using hi1
              have zne2 : (i != q + 1) = true := by simpa using hi2
              clear hgq hgr
              go_wp2_with fail
              refine (hgt _).mono ?_
              rintro e w8 ⟨l, f, rfl, hl8, hb8⟩
              have hl8 : Lies 5 w8 u l f := hl8
              obtain ⟨a1, c1, a2, c2, rfl, rfl⟩ := hl8.slices
              have q8 := row_below hb8 (heap_alloc_new w7 _)
              obtain ⟨y0, y1, y2, y3, y4, yf⟩ := row5 q8
              have hs8 := lt_of_heap q8
              have hb78 : Below w7.heap.size w7 w8 := (hw7 _).trans (hb8.mono (hw7 _).size)
              have hw8 : ∀ ob, Below w8.heap.size w8 (w8.alloc ob) := fun ob => (Below.refl _ _).alloc (Nat.le_refl _) _
              have hsm := fun ob => same_self (hl8.below (hw8 ob)) (Rep.le (HN.out.2.2.below (hb78.trans ((hw8 ob).mono hb78.size))) (by omega : 3 ≤ 5))
              have H8 := (show Hid _ from hb78)
              clear hl8 hb8 hgt hb78 q8
              simp only [Option.getD_some]
              go_wp2_with fail
              refine (hsm _).mono ?_
              rintro e w9 ⟨rfl, hb9⟩
              have H9 := (show Hid _ from (H8.out.trans ((hw8 _).mono H8.out.size)).trans (hb9.mono (by have := H8.out.size; simp; omega)))
              clear hsm hb9
              go_wp2
              go_roundg cnt7
              case measure => omega
              case rel => exact ⟨_, cnt7, Nat.le_refl _, range_below HN.out.1 H9.out, HN.out.2.1.trans ((H9.out).mono HN.out.2.1.size)⟩
end Go.Proofs.YtjihfbahcebljaaDoor
