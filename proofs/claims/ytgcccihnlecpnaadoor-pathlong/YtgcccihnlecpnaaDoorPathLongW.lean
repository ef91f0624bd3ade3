/-
  PathLong's walk. No conditions beyond those stated.
-/
import Derived.Test.YtgcccihnlecpnaaDoorPStrs
import Derived.Test.YtgcccihnlecpnaaDoorPAw
namespace Go.Proofs.YtgcccihnlecpnaaDoor
open Go.RowKit

/-- so many letters. -/
def xs (l : Nat) : ByteArray := ⟨(List.replicate l (120 : UInt8)).toArray⟩
theorem xs_size (l : Nat) : (xs l).size = l := by show (List.replicate l (120 : UInt8)).length = l; simp
theorem xs_more (l : Nat) : xs l ++ ⟨#[120]⟩ = xs (l + 1) := by
  apply ByteArray.ext
  apply Array.ext'
  show ((xs l) ++ ⟨#[120]⟩ : ByteArray).data.toList = (List.replicate (l + 1) (120 : UInt8))
  rw [List.replicate_succ']
  simp [xs]
/-- a part, and so many more. -/
def tail_ (i : Nat) : List UInt8 := (List.replicate i [(46 : UInt8), 121]).flatten
def longOf (l i : Nat) : ByteArray := ⟨(List.replicate l (120 : UInt8) ++ tail_ i).toArray⟩
theorem long_zero (l : Nat) : longOf l 0 = xs l := by simp [longOf, tail_, xs]
theorem tail_more (i : Nat) : tail_ (i + 1) = tail_ i ++ [46, 121] := by
  unfold tail_; rw [List.replicate_succ']; simp
theorem long_more (l i : Nat) : (longOf l i ++ ⟨#[46]⟩) ++ ⟨#[121]⟩ = longOf l (i + 1) := by
  apply ByteArray.ext
  apply Array.ext'
  show ((longOf l i ++ ⟨#[46]⟩) ++ ⟨#[121]⟩ : ByteArray).data.toList = (List.replicate l (120 : UInt8) ++ tail_ (i + 1))
  rw [tail_more]
  simp [longOf]
theorem long_size (l i : Nat) : (longOf l i).size = l + 2 * i := by
  show (List.replicate l (120 : UInt8) ++ tail_ i).length = _
  rw [List.length_append]
  have : ∀ i, (tail_ i).length = 2 * i := by
    intro i
    induction i with
    | zero => rfl
    | succ i ih => rw [tail_more, List.length_append, ih]; simp; omega
  rw [this]; simp
theorem dotG_xs : ∀ (l : Nat) (p r : List UInt8), dotG p (List.replicate l 120 ++ r) = dotG (p ++ List.replicate l 120) r
  | 0, p, r => by simp
  | l + 1, p, r => by
    rw [List.replicate_succ, List.cons_append, dotG, if_neg (by decide), dotG_xs l]
    simp
theorem dotG_tail (q : List UInt8) : ∀ (i : Nat) (p : List UInt8), dotG p (tail_ i ++ q) = match i with
    | 0 => dotG p q
    | i + 1 => p :: (List.replicate i [(121 : UInt8)] ++ dotG [121] q)
  | 0, p => rfl
  | 1, p => by
    show dotG p (46 :: 121 :: q) = _
    rw [dotG, if_pos rfl, dotG, if_neg (by decide)]; rfl
  | i + 2, p => by
    have ih := dotG_tail q (i + 1) [121]
    have e : tail_ (i + 2) = 46 :: 121 :: tail_ (i + 1) := by unfold tail_; rw [List.replicate_succ, List.flatten_cons]; rfl
    rw [e, List.cons_append, List.cons_append, dotG, if_pos rfl, dotG, if_neg (by decide)]
    show p :: dotG [121] (tail_ (i + 1) ++ q) = _
    rw [ih]
    show p :: ([121] :: (List.replicate i [(121 : UInt8)] ++ dotG [121] q)) = p :: (List.replicate (i + 1) [(121 : UInt8)] ++ dotG [121] q)
    rw [List.replicate_succ]; rfl
/-- the parts of such a path. -/
theorem dots_long (l i : Nat) : dots (longOf l i) = xs l :: List.replicate i (mkB [121]) := by
  unfold dots
  show (dotG [] (List.replicate l (120 : UInt8) ++ tail_ i)).map mkB = _
  rw [dotG_xs, List.nil_append]
  have h := dotG_tail [] i (List.replicate l 120)
  rw [List.append_nil] at h
  rw [h]
  cases i with
  | zero => rfl
  | succ i =>
    show (List.replicate l (120 : UInt8) :: (List.replicate i [(121 : UInt8)] ++ [[121]])).map mkB = _
    rw [List.replicate_succ' , List.map_cons, List.map_append, List.map_replicate]; rfl
theorem dots_dot (l i : Nat) : mkB [] ∈ dots (longOf l i ++ ⟨#[46]⟩) := by
  unfold dots
  have e : (longOf l i ++ ⟨#[46]⟩ : ByteArray).data.toList = List.replicate l (120 : UInt8) ++ (tail_ i ++ [46]) := by simp [longOf]
  rw [e, dotG_xs, List.nil_append, dotG_tail]
  cases i with
  | zero => simp [dotG]
  | succ i => simp [dotG]
theorem valid_ascii : ∀ l : List UInt8, (∀ c ∈ l, c.toNat < 128) → Lib.validD l = true
  | [], _ => Lib.validD_nil
  | c :: l, h => by
    rw [Lib.validD_cons c l (h c (by simp))]
    exact valid_ascii l fun d hd => h d (List.mem_cons_of_mem _ hd)
theorem tail_small : ∀ (i : Nat), ∀ c ∈ tail_ i, c.toNat < 128 := by
  intro i c hc
  obtain ⟨x, hx, hcx⟩ := List.mem_flatten.1 hc
  rw [(List.mem_replicate.1 hx).2] at hcx
  rcases List.mem_cons.1 hcx with rfl | hcx
  · decide
  · rw [List.mem_singleton.1 hcx]; decide
theorem long_small (l i : Nat) : ∀ c ∈ (longOf l i).data.toList, c.toNat < 128 := by
  intro c hc
  have hc' : c ∈ List.replicate l (120 : UInt8) ++ tail_ i := by simpa [longOf] using hc
  rcases List.mem_append.1 hc' with h | h
  · rw [(List.mem_replicate.1 h).2]; decide
  · exact tail_small i c h
/-- which of them are paths. -/
theorem long_parse (l i : Nat) (hl : 1 ≤ l ∧ l ≤ 32) (hi : i ≤ 7) : parsePP (longOf l i) = some (xs l :: List.replicate i (mkB [121])) := by
  rw [← dots_long]
  refine parse_good ⟨valid_ascii _ (long_small l i), by rw [dots_long]; simp; omega, ?_⟩
  rw [dots_long]
  intro p hp
  rcases List.mem_cons.1 hp with rfl | hp
  · show 1 ≤ (xs l).size ∧ (xs l).size ≤ 32
    rw [xs_size]; exact hl
  · rw [(List.mem_replicate.1 hp).2]; decide
theorem long_wrong (l i : Nat) (h : ¬ (1 ≤ l ∧ l ≤ 32) ∨ 7 < i) : parsePP (longOf l i) = none := by
  refine parse_bad fun hh => ?_
  obtain ⟨-, h2, h3⟩ := hh
  rw [dots_long] at h2 h3
  rcases h with h | h
  · have := h3 (xs l) (by simp)
    have h4 : 1 ≤ (xs l).size ∧ (xs l).size ≤ 32 := this
    rw [xs_size] at h4
    exact h h4
  · simp at h2; omega
theorem dot_wrong (l i : Nat) : parsePP (longOf l i ++ ⟨#[46]⟩) = none := by
  refine parse_bad fun hh => ?_
  have := hh.2.2 _ (dots_dot l i)
  exact absurd this.1 (by decide)

set_option maxRecDepth 100000 in
set_option maxHeartbeats 8000000 in
theorem PathLong_walk (a : Int) (ha : (Lit.int .u8 a).wf = true) (b : Int) (hb : (Lit.int .u8 b).wf = true) (d : Int) (_hd : (Lit.int .u8 d).wf = true) (w : World) (hE : PEnv w) :
    Calls Tryd.prog 4 #[.int .u8 a, .int .u8 b, .int .u8 d] w fun e w' => e = .returned (.bool true) ∧ Below w.heap.size w w' := by
  have ha0 : 0 ≤ a ∧ a ≤ 255 := by
    have h1 : IntKind.u8.min = 0 := rfl
    have h2 : IntKind.u8.max = 255 := rfl
    simp only [Lit.wf, Bool.and_eq_true, decide_eq_true_eq] at ha
    omega
  have hb0 : 0 ≤ b ∧ b ≤ 255 := by
    have h1 : IntKind.u8.min = 0 := rfl
    have h2 : IntKind.u8.max = 255 := rfl
    simp only [Lit.wf, Bool.and_eq_true, decide_eq_true_eq] at hb
    omega
  obtain ⟨a0, a1⟩ := ha0
  obtain ⟨b0, b1⟩ := hb0
  obtain ⟨K, hK⟩ : ∃ K : Nat, a % 12 = (K : Int) := ⟨(a % 12).toNat, by omega⟩
  obtain ⟨L, hL⟩ : ∃ L : Nat, b % 40 = (L : Int) := ⟨(b % 40).toNat, by omega⟩
  have hK12 : K < 12 := by omega
  have hL40 : L < 40 := by omega
  have hKt : a.tmod 12 = (K : Int) := by rw [Int.tmod_eq_emod_of_nonneg a0]; exact hK
  have hLt : b.tmod 40 = (L : Int) := by rw [Int.tmod_eq_emod_of_nonneg b0]; exact hL
  have zK : (K : Int) < 12 := by omega
  have zL : (L : Int) < 40 := by omega
  have zK0 : (0 : Int) ≤ (K : Int) := by omega
  have zL0 : (0 : Int) ≤ (L : Int) := by omega
  have haw := awake_true w hE
  have HE := (show Hid _ from hE)
  clear hE ha hb _hd
  go_enter Tryd.func4, Tryd.ntmps4
  go_wp2_with fail
  refine haw.mono ?_
  rintro e w1 ⟨rfl, hB1⟩
  have HB1 := (show Hid _ from hB1)
  clear haw hB1
  obtain ⟨k1, hk1⟩ : ∃ k1 : Int, (1 : Int) + (K : Int) = k1 := ⟨_, rfl⟩
  go_wp2_with fail
  go_loopg [9, 10] L (fun gg pv i wr => ∃ k : Nat, k ≤ L ∧ L - k ≤ gg ∧ i = .int .i64 k ∧ pv = .string (xs k) ∧ Aside (wr = w1))
  case atStart => exact ⟨0, Nat.zero_le _, by omega, rfl, rfl, rfl⟩
  case round =>
    obtain ⟨k, hk, hgg, rfl, rfl, A⟩ := hrel
    have hxz := xs_size k
    by_cases hlt : k < L
    · have zk : (k : Int) < (L : Int) := by omega
      have HM := (show Hid _ from xs_more k)
      generalize xs k = P at *
      go_wp2_with fail
      go_roundg (L - (k + 1))
      case measure => omega
      case rel => exact ⟨k + 1, by omega, by omega, by go_num, by rw [HM.out], A.out⟩
    · have zk : ¬ (k : Int) < (L : Int) := by omega
      obtain rfl : k = L := by omega
      have hA := A.out.symm
      subst hA
      clear A
      go_wp2_with fail
      go_loopg [11, 12] K (fun gg sv i wr => ∃ j : Nat, j ≤ K ∧ K - j ≤ gg ∧ i = .int .i64 ((j : Int) + 1) ∧ sv = .string (longOf k j) ∧ Aside (wr = w1))
      case atStart => exact ⟨0, Nat.zero_le _, by omega, rfl, by rw [long_zero], rfl⟩
      case round =>
        obtain ⟨j, hj, hjg, rfl, rfl, A⟩ := hrel
        have hsz := long_size k j
        by_cases hjl : j < K
        · have zj : (j : Int) + 1 < k1 := by omega
          have HM := (show Hid _ from long_more k j)
          generalize longOf k j = P at *
          go_wp2_with fail
          go_roundg (K - (j + 1))
          case measure => omega
          case rel => exact ⟨j + 1, by omega, by omega, by go_num, by rw [← HM.out], A.out⟩
        · have zj : ¬ (j : Int) + 1 < k1 := by omega
          obtain rfl : K = j := by omega
          have hA := A.out.symm
          subst hA
          clear A
          have hparse := Parse6_any (longOf k K) w1 (HE.out.below HB1.out) (by omega)
          by_cases hc : (1 ≤ k ∧ k ≤ 32) ∧ K ≤ 7
          · obtain ⟨⟨hk1', hk2'⟩, hK7⟩ := hc
            rw [long_parse k K ⟨hk1', hk2'⟩ hK7] at hparse
            have z8 : ¬ (8 : Int) < k1 := by omega
            have zk0 : ((k : Int) == 0) = false := by simp; omega
            have z32 : ¬ (32 : Int) < (k : Int) := by omega
            have hdot := fun W (hW : Below w1.heap.size w1 W) => Parse6_any (longOf k K ++ ⟨#[46]⟩) W ((HE.out.below HB1.out).below hW) (by rw [ByteArray.size_append, long_size]; have : (⟨#[46]⟩ : ByteArray).size = 1 := rfl; omega)
            simp only [dot_wrong] at hdot
            have hxz := xs_size k
            generalize longOf k K = P at *
            go_wp2_with fail
            refine hparse.mono ?_
            rintro e w2 ⟨hb2, pv, rfl, hst⟩
            have hdot2 := hdot w2 hb2
            obtain ⟨pa, pc, rfl, hp1, hp2, hpc⟩ := hst
            obtain ⟨pb, po, rfl, hcell⟩ := hpc (by simp)
            have d0 := hcell 0 (xs k) rfl
            rw [Nat.add_zero] at d0
            obtain ⟨n, hn⟩ : ∃ n, (xs k :: List.replicate K (mkB [121])).length = n := ⟨_, rfl⟩
            have hnk : ((n : Int) == k1) = true := by rw [← hn]; simp; omega
            rw [hn] at hp1 ⊢
            have zn : (0 : Int) < (n : Int) := by rw [← hn]; simp
            have HY := (show Hid _ from And.intro hb2 d0)
            generalize xs k = X at *
            clear hparse hdot hpc hcell hb2 d0 hn
            go_wp2_with fail
            refine hdot2.mono ?_
            rintro e w3 ⟨hb3, ue, ze, rfl, hflt⟩
            obtain ⟨hb2, d0⟩ := HY.out
            have d0' := (hb3.cell (lt_of_cell d0)).trans d0
            have hb23 := hb2.trans (hb3.mono hb2.size)
            have hcode := hflt.code ((HE.out.below HB1.out).below hb23)
            have HC := (show Hid _ from HB1.out.trans (hb23.mono HB1.out.size))
            have heq : (X.toList == X.toList) = true := by simp
            clear hb2 d0 hb23 hflt hb3 hdot2
            go_wp2_with fail
            refine hcode.mono ?_
            rintro e w4 ⟨rfl, hb4⟩
            go_wp2_with fail
            go_ret
            exact ⟨rfl, HC.out.trans (hb4.mono HC.out.size)⟩
          · rw [long_wrong k K (by
              by_cases h7 : 7 < K
              · exact .inr h7
              · exact .inl fun hh => hc ⟨hh, by omega⟩)] at hparse
            have hcc : 7 < K ∨ k = 0 ∨ 32 < k := by
              by_cases h7 : 7 < K
              · exact .inl h7
              · by_cases h0 : k = 0
                · exact .inr (.inl h0)
                · right; right
                  by_cases h3 : 32 < k
                  · exact h3
                  · exact absurd ⟨⟨by omega, by omega⟩, by omega⟩ hc
            generalize longOf k K = P at *
            clear hc
            by_cases h7 : 7 < K
            · have z8 : (8 : Int) < k1 := by omega
              clear hcc h7
              go_wp2_with fail
              refine hparse.mono ?_
              rintro e w2 ⟨hb2, ue, ze, rfl, hflt⟩
              have hcode := hflt.code ((HE.out.below HB1.out).below hb2)
              have HC := (show Hid _ from HB1.out.trans (hb2.mono HB1.out.size))
              clear hb2 hflt hparse
              go_wp2_with fail
              refine hcode.mono ?_
              rintro e w3 ⟨rfl, hb3⟩
              go_wp2_with fail
              go_ret
              exact ⟨rfl, HC.out.trans (hb3.mono HC.out.size)⟩
            · have z8 : ¬ (8 : Int) < k1 := by omega
              by_cases h0 : k = 0
              · have zk0 : ((k : Int) == 0) = true := by simp; omega
                clear hcc h7 h0
                go_wp2_with fail
                refine hparse.mono ?_
                rintro e w2 ⟨hb2, ue, ze, rfl, hflt⟩
                have hcode := hflt.code ((HE.out.below HB1.out).below hb2)
                have HC := (show Hid _ from HB1.out.trans (hb2.mono HB1.out.size))
                clear hb2 hflt hparse
                go_wp2_with fail
                refine hcode.mono ?_
                rintro e w3 ⟨rfl, hb3⟩
                go_wp2_with fail
                go_ret
                exact ⟨rfl, HC.out.trans (hb3.mono HC.out.size)⟩
              · have zk0 : ((k : Int) == 0) = false := by simp; omega
                have z32 : (32 : Int) < (k : Int) := by omega
                clear hcc h7 h0
                go_wp2_with fail
                refine hparse.mono ?_
                rintro e w2 ⟨hb2, ue, ze, rfl, hflt⟩
                have hcode := hflt.code ((HE.out.below HB1.out).below hb2)
                have HC := (show Hid _ from HB1.out.trans (hb2.mono HB1.out.size))
                clear hb2 hflt hparse
                go_wp2_with fail
                refine hcode.mono ?_
                rintro e w3 ⟨rfl, hb3⟩
                go_wp2_with fail
                go_ret
                exact ⟨rfl, HC.out.trans (hb3.mono HC.out.size)⟩
end Go.Proofs.YtgcccihnlecpnaaDoor
