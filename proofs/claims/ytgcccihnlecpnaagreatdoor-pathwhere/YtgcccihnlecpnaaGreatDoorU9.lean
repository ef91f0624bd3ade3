/-
  The law's Made at lists, by its contract. No conditions beyond those stated.
  The law's Made at objects, by its contract. No conditions beyond those stated.
  The law's Made, Of and Doc by their contracts. No conditions beyond those stated.
  The law's Doc by its contract. No conditions beyond those stated.
-/
import Derived.Test.YtgcccihnlecpnaaGreatDoorU8
import Derived.Test.YtgcccihnlecpnaaGreatDoorU5
import Derived.Deep.AppendLies
import Derived.Deep.RegionLaw
namespace Go.Proofs.YtgcccihnlecpnaaGreatDoor
open Go.RowKit

/-- the elements that were made so far: a list that grows. -/
structure Grows (d : Nat) (W : World) (B : Nat) (s : Value) (es : List El) : Prop where
  own : W.ownsRow (B + 1) 28 5 s es.length (encEs es)
  nice : ∀ e ∈ es, Nice d e.v
  rep : ∀ e ∈ es, Rep (fun b => B < b ∧ s.ownBlock ≠ some b) d W e.v e.l e.f
theorem Grows.move {d B : Nat} {W W' : World} {s : Value} {es : List El} (h : Grows d W B s es) (hm : ∀ b, B < b → b < W.heap.size → W'.heap[b]? = W.heap[b]?) : Grows d W' B s es :=
  ⟨ownsRow_move (fun b hb hl => ⟨(h.own.lt b hb).1, hm b (by have := (h.own.lt b hb).1; omega) hl⟩) h.own, h.nice, fun e he => (h.rep e he).move fun b hb hl => ⟨hb, hm b hb.1 hl⟩⟩
theorem ownsRow_slice {W : World} {base t k n : Nat} {s : Value} {xs : List Value} (h : W.ownsRow base t k s n xs) : ∃ a c, s = .slice a n c := by
  rcases h.2 with ⟨rfl, rfl⟩ | ⟨g, cap, cur, rfl, _⟩
  · exact ⟨_, _, rfl⟩
  · exact ⟨_, _, rfl⟩
theorem Grows.step {d B : Nat} {W3 : World} {sl v' : Value} {es : List El} {x : V} {l f : Value} {W2 : World} (h : Grows d W2 B sl es) (hx : Nice d x) (hrep : Rep (fun b => B < b ∧ sl.ownBlock ≠ some b) d W2 x l f)
    (hown : W3.ownsRow (B + 1) 28 5 v' (es.length + 1) (encEs es ++ [.int .i64 x.kind, .int .i64 x.num, .string x.text, l, f])) (hg : W2.grownBy W3 sl.ownBlock) (hv : sl.ownBlock = v'.ownBlock ∨ v'.ownBlock = some W2.heap.size) : Grows d W3 B v' (es ++ [⟨x, l, f⟩]) := by
  have hm : ∀ b, (B < b ∧ sl.ownBlock ≠ some b) → b < W2.heap.size → (B < b ∧ v'.ownBlock ≠ some b) ∧ W3.heap[b]? = W2.heap[b]? := by
    intro b h1 h2
    refine ⟨⟨h1.1, ?_⟩, hg.block b h2 (fun e => h1.2 e.symm)⟩
    rcases hv with e | e
    · rw [← e]; exact h1.2
    · rw [e]
      intro e2
      have := Option.some.inj e2
      omega
  refine ⟨?_, ?_, ?_⟩
  · rw [encEs_append, List.length_append]; exact hown
  · intro e he
    rcases List.mem_append.1 he with he | he
    · exact h.nice e he
    · rw [List.mem_singleton.1 he]; exact hx
  · intro e he
    rcases List.mem_append.1 he with he | he
    · exact (h.rep e he).move hm
    · rw [List.mem_singleton.1 he]; exact hrep.move hm

/-- Made, so deep. -/
def MakesAt (d : Nat) (D : Int) : Prop := ∀ (W : World) (s : Value) (bs : List UInt8), BytesAt W s bs → Tabs W → Calls Tryz.prog 17 #[s, .int .i64 D] W
  fun e w' => ∃ x l f r, e = .returned (.tuple #[.agg #[.int .i64 x.kind, .int .i64 x.num, .string x.text, l, f], r]) ∧ MadeV d W w' s bs x l f r

set_option maxRecDepth 100000 in
set_option maxHeartbeats 2000000 in
theorem Made_list (d : Nat) (D : Int) (hD : 1 < D) (hD2 : D ≤ 1000) (ih : MakesAt d (D - 1)) (u : UInt8) (bs : List UInt8) (a : Option Addr) (cap : Nat) (w : World) (hb : BytesAt w (.slice a (u :: bs).length cap) (u :: bs)) (hT : Tabs w) (hr : (u.toNat : Int) % 6 = 4) : Calls Tryz.prog 17 #[.slice a (u :: bs).length cap, .int .i64 D] w
    fun e w' => ∃ x l f r, e = .returned (.tuple #[.agg #[.int .i64 x.kind, .int .i64 x.num, .string x.text, l, f], r]) ∧ MadeV (d + 1) w w' (.slice a (u :: bs).length cap) (u :: bs) x l f r := by
  obtain ⟨b, o, rfl, c0, h1, h2, ht⟩ := hb.tail
  obtain ⟨A, hA⟩ : ∃ A : Option Addr, (if cap = 1 then some (⟨b, o, none⟩ : Addr) else some ⟨b, o + 1, none⟩) = A := ⟨_, rfl⟩
  have hlt := lt_of_cell c0
  have hu : u.toNat < 256 := u.toNat_lt
  obtain ⟨c, hc⟩ : ∃ c : Int, (u.toNat : Int) = c := ⟨_, rfl⟩
  rw [hc] at c0 hr
  have c1 : 0 ≤ c := by omega
  have c2 : c ≤ 255 := by omega
  have HT : Hid (Tl (.slice (some ⟨b, o, none⟩) (u :: bs).length cap) (u :: bs) (.slice A bs.length (cap - 1))) := ⟨bs, fun W hW => by obtain ⟨b', o', e, _, _, _, ht'⟩ := hW.tail; cases e; rw [hA] at ht'; exact ht'⟩
  have HB0 : Hid (BytesAt w (.slice (some ⟨b, o, none⟩) (u :: bs).length cap) (u :: bs)) := hb
  obtain ⟨m, hm⟩ : ∃ m : Nat, c / 6 % 4 = (m : Int) := ⟨(c / 6 % 4).toNat, by omega⟩
  have hm4 : m ≤ 3 := by omega
  simp only [List.length_cons]
  clear ht hb hu hc
  obtain ⟨i0, hi, hz0, hz1, hz2⟩ := info_parts infoV
  go_enter Tryz.func17, Tryz.ntmps17
  go_wp2
  go_loopg [0, 9, 10, 11] m (fun gg s0 i _ _ wr => ∃ (k : Nat) (es : List El) (sl : Value), k ≤ m ∧ m - k ≤ gg ∧ i = .int .i64 k ∧ es.length = k ∧ Aside (Tl (.slice (some ⟨b, o, none⟩) (u :: bs).length cap) (u :: bs) s0) ∧ Aside (Below w.heap.size w wr ∧ wr.heap[w.heap.size]? = some (.cells #[.int .i64 0, .int .i64 0, .string ⟨#[]⟩, .slice none 0 0, .slice none 0 0] 28 (0, 0)) ∧ wr.heap[w.heap.size + 1]? = some (.cells #[.int .i64 4, .int .i64 0, .string ⟨#[]⟩, sl, .slice none 0 0] 28 (0, 0)) ∧ Grows d wr (w.heap.size + 1) sl es))
  case atStart =>
    refine ⟨0, [], .slice none 0 0, Nat.zero_le _, by omega, rfl, rfl, HT.out, ((Below.refl _ _).alloc (Nat.le_refl _) _).alloc (by simp) _, heap_alloc2_old, heap_alloc2_new, ⟨World.ownsRow_nil _ _ _ _, fun e he => (by cases he), fun e he => (by cases he)⟩⟩
  case round =>
    obtain ⟨k, es, sl, hk, hgg, rfl, rfl, HB, R⟩ := hrel
    obtain ⟨hB, hrow0, hrow1, hG⟩ := R.out
    obtain ⟨al, cl, rfl⟩ := ownsRow_slice hG.own
    obtain ⟨bs', hbs'⟩ := HB.out
    have hbs1 := hbs' wr (HB0.out.below hB)
    by_cases hlt' : es.length < m
    · have zk : (es.length : Int) < (m : Int) := by omega
      have hcall := ih wr _ bs' hbs1 (hT.below hB)
      clear ih
      go_wp2_with fail
      refine hcall.mono ?_
      rintro e w1 ⟨x, l, f, r, rfl, hnx, hrx, hrb, hb1⟩
      obtain ⟨bl, dl, bf, df, rfl, rfl⟩ := hrx.slices
      have hrow1' := row_below hb1 hrow1
      have hrow0' := row_below hb1 hrow0
      obtain ⟨k0, k1, k2, k3, k4, kf⟩ := row5 hrow1'
      have hz1' : w.heap.size + 1 < w1.heap.size := lt_of_heap hrow1'
      have hG1 : Grows d w1 (w.heap.size + 1) (.slice al es.length cl) es := hG.move fun b _ hl => hb1.block b hl
      have hB1 : Below w.heap.size w w1 := hB.trans (hb1.mono hB.size)
      obtain ⟨O, hO⟩ : ∃ O, O = Obj.cells #[.int .i64 x.kind, .int .i64 x.num, .string x.text, .slice bl x.list.length dl, .slice bf x.fields.length df] 28 := ⟨_, rfl⟩
      have hG2 : Grows d ((w1.alloc O).alloc O) (w.heap.size + 1) (.slice al es.length cl) es := hG1.move fun b _ hl => by rw [Below.heap_alloc _ _ b (by simp; omega), Below.heap_alloc _ _ b hl]
      have hnews : Aside (∀ j u, [Value.int .i64 x.kind, .int .i64 x.num, .string x.text, .slice bl x.list.length dl, .slice bf x.fields.length df][j]? = some u → ((w1.alloc O).alloc O).cell? ((⟨w1.heap.size + 1, 0, none⟩ : Addr).add j) = some u) := by
        have h : ((w1.alloc O).alloc O).heap[w1.heap.size + 1]? = some O := heap_alloc2_new
        rw [hO] at h ⊢
        exact World.news_of_block h
      have hone : Aside (∀ v ∈ [Value.int .i64 x.kind, .int .i64 x.num, .string x.text, .slice bl x.list.length dl, .slice bf x.fields.length df], v.oneCell' = true) := by
        intro v hv
        simp only [List.mem_cons, List.not_mem_nil, or_false] at hv
        rcases hv with rfl | rfl | rfl | rfl | rfl <;> rfl
      have hown := (show Aside _ from hG2.own)
      have hszz : w1.heap.size + 1 + 1 = ((w1.alloc O).alloc O).heap.size := by simp
      have hR3 : Aside (∀ w3, ((w1.alloc O).alloc O).grownBy w3 (Value.slice al es.length cl).ownBlock → w3.heap[w.heap.size + 1]? = some (.cells #[.int .i64 4, .int .i64 0, .string ⟨#[]⟩, .slice al es.length cl, .slice none 0 0] 28 (0, 0)) ∧ w3.heap[w.heap.size]? = some (.cells #[.int .i64 0, .int .i64 0, .string ⟨#[]⟩, .slice none 0 0, .slice none 0 0] 28 (0, 0))) := by
        intro w3 hgr
        have hne : ∀ b, b < w.heap.size + 1 + 1 → some b ≠ (Value.slice al es.length cl).ownBlock := fun b hb e => by
          have := (hG2.own.lt b e.symm).1
          omega
        have hl0 := lt_of_heap hrow0'
        refine ⟨(hgr.block _ (by simp; omega) (hne _ (by omega))).trans ?_, (hgr.block _ (by simp; omega) (hne _ (by omega))).trans ?_⟩
        · rw [Below.heap_alloc _ _ _ (by simp; omega), Below.heap_alloc _ _ _ (by omega)]; exact hrow1'
        · rw [Below.heap_alloc _ _ _ (by simp; omega), Below.heap_alloc _ _ _ (by omega)]; exact hrow0'
      rw [hO] at hown hnews hszz hR3
      have S := (show Aside _ from And.intro hnx (And.intro hrx (And.intro hrb (And.intro hrow0' (And.intro hrow1' (And.intro hG2 (And.intro hB1 (And.intro (lt_of_heap hrow1) (And.intro hb1 (And.intro hO (And.intro (fun k e => (hG.own.lt k e).2) hbs')))))))))))
      have hsb : w.heap.size + 1 + 1 ≤ w1.heap.size := hz1'
      clear hcall hnx hrx hrb hrow0' hrow1' hG1 hG2 hB1 hb1 hB hrow0 hrow1 hG R HB hO hbs' hbs1
      go_wp2_with (first | (at_builtin; refine wpList_append_lies _ rfl (.tmp 78) (.tmp 80) 25 rfl (w.heap.size + 1 + 1) 28 i0 _ 5 80 Tryz.underlying25 hi hz0 hz1 hz2 rfl (by decide) _ es.length (encEs es) rfl hown.out ⟨w1.heap.size + 1, 0, none⟩ 1 1 [.int .i64 x.kind, .int .i64 x.num, .string x.text, .slice bl x.list.length dl, .slice bf x.fields.length df] rfl rfl hnews.out hone.out (by omega) (by unfold maxLen; omega) (by omega) (by simp; omega) _ rfl ?_; intro g cap' w3 hown3 hgrow3 hlie hlt3; have r3 := (hR3.out w3 hgrow3).1; obtain ⟨m0, m1, m2, m3, m4, mf⟩ := row5 r3; have zz3 : w.heap.size + 1 < w3.heap.size := lt_of_heap r3; have Y := (show Aside _ from And.intro hown3 (And.intro hgrow3 (And.intro hlie r3))); clear hown3 hgrow3 hlie r3))
      go_roundg (m - (es.length + 1))
      case measure => omega
      case rel =>
        obtain ⟨hnx, hrx, hrb, hrow0', hrow1', hG2, hB1, hl1, hb1, hO, hlw, hbs'⟩ := S.out
        obtain ⟨hown3, hgrow3, hlie, r3⟩ := Y.out
        rw [← hO] at hgrow3 hR3
        have q3 := (hR3.out w3 hgrow3).2
        have hB3 : Below w.heap.size w w3 := (((hB1.alloc (by omega) O).alloc (by simp; omega) O).grown hgrow3 (by simp; omega) (fun k e => by have := (hG2.own.lt k e).1; omega))
        have hrx2 : Rep (fun b => w.heap.size + 1 < b ∧ (Value.slice al es.length cl).ownBlock ≠ some b) d ((w1.alloc O).alloc O) x (.slice bl x.list.length dl) (.slice bf x.fields.length df) := hrx.move fun b hb hl => by
          refine ⟨⟨by omega, fun e => ?_⟩, by rw [Below.heap_alloc _ _ b (by simp; omega), Below.heap_alloc _ _ b hl]⟩
          have := hlw b e
          omega
        have hG3 : Grows d w3 (w.heap.size + 1) (.slice (some ⟨g, 0, none⟩) (es.length + 1) cap') (es ++ [⟨x, .slice bl x.list.length dl, .slice bf x.fields.length df⟩]) := by
          refine hG2.step hnx hrx2 hown3 hgrow3 ?_
          rcases hlie with e | e
          · exact .inl e
          · right; show some g = _; rw [e]; simp
        have hne : ∀ b, w.heap.size + 1 < b → (w3.setCell ⟨w.heap.size + 1, 3, none⟩ (.slice (some ⟨g, 0, none⟩) (es.length + 1) cap')).heap[b]? = w3.heap[b]? := fun b hb => heap_setCell_ne _ _ _ (by simp; omega)
        refine ⟨es.length + 1, es ++ [⟨x, .slice bl x.list.length dl, .slice bf x.fields.length df⟩], .slice (some ⟨g, 0, none⟩) (es.length + 1) cap', by omega, by omega, by go_num, by simp, ?_, hB3.setCell (by simp) _, ?_, ?_, hG3.move fun b hb _ => hne b hb⟩
        · obtain ⟨bs2, h2⟩ := hrb
          exact ⟨bs2, fun W hW => h2 W (hbs' W hW)⟩
        · rw [heap_setCell_ne _ _ _ (by simp)]; exact q3
        · exact setCell_row r3 (i := 3) _
    · have zk : ¬ (es.length : Int) < (m : Int) := by omega
      obtain ⟨k0, k1, k2, k3, k4, kf⟩ := row5 hrow1
      obtain ⟨j0, j1, j2, j3, j4, jf⟩ := row5 hrow0
      have hz1' : w.heap.size + 1 < wr.heap.size := lt_of_heap hrow1
      have S := (show Aside _ from And.intro hB hG)
      clear ih hB hrow0 hrow1 hG R hbs' hbs1
      go_wp2
      refine bodyPost_ret (v := .tuple #[.agg #[.int .i64 4, .int .i64 0, .string ⟨#[]⟩, .slice al es.length cl, .slice none 0 0], _]) (by simp [results, Tryz.results17, go_sem, j0, j1, j2, j3, j4]) rfl ⟨⟨4, 0, ⟨#[]⟩, es.map El.v, []⟩, _, _, _, rfl, ?_, ?_, HB.out, ?_⟩
      · obtain ⟨hB, hG⟩ := S.out
        refine ⟨show (0 : Int) ≤ 4 by decide, show (4 : Int) ≤ 5 by decide, ⟨show (-9223372036854775808 : Int) ≤ 0 by decide, show (0 : Int) ≤ 9223372036854775807 by decide⟩, show Wd 4 0 ⟨#[]⟩ from Wd.no _ _ (by decide), by simp; omega, by simp, trivial, fun y hy => ?_, fun p hp => by cases hp⟩
        obtain ⟨e, he, rfl⟩ := List.mem_map.1 hy
        exact hG.nice e he
      · obtain ⟨hB, hG⟩ := S.out
        have hne : ∀ b, w.heap.size < b → (set5W wr w.heap.size 0 1 2 3 4 (.int .i64 4) (.int .i64 0) (.string ⟨#[]⟩) (.slice al es.length cl) (.slice none 0 0)).heap[b]? = wr.heap[b]? := fun b hb => set5W_ne _ _ _ _ _ _ _ _ _ _ _ _ (by omega)
        have hG' := hG.move (W' := set5W wr w.heap.size 0 1 2 3 4 (.int .i64 4) (.int .i64 0) (.string ⟨#[]⟩) (.slice al es.length cl) (.slice none 0 0)) fun b hb _ => hne b (by omega)
        exact ⟨⟨es, rfl, ⟨ownsRow_move (fun b _ _ => ⟨Nat.zero_le _, rfl⟩) hG'.own, by omega, fun b hb => by have := (hG'.own.lt b hb).1; show w.heap.size ≤ b; omega⟩, fun e he => (hG'.rep e he).move fun b hb _ => ⟨by omega, rfl⟩⟩, ⟨[], rfl, RowAt.nil, fun e he => by cases he⟩⟩
      · exact set5W_below S.out.1 (Nat.le_refl _) 0 1 2 3 4 _ _ _ _ _
end Go.Proofs.YtgcccihnlecpnaaGreatDoor

namespace Go.Proofs.YtgcccihnlecpnaaGreatDoor
open Go.RowKit

/-- the elements that were made so far: a list that grows. -/
structure GrowsF (d : Nat) (W : World) (B : Nat) (s : Value) (es : List Fl) : Prop where
  own : W.ownsRow (B + 1) 44 6 s es.length (encFs es)
  nice : ∀ e ∈ es, Nice d e.v
  rep : ∀ e ∈ es, Rep (fun b => B < b ∧ s.ownBlock ≠ some b) d W e.v e.l e.f
theorem GrowsF.move {d B : Nat} {W W' : World} {s : Value} {es : List Fl} (h : GrowsF d W B s es) (hm : ∀ b, B < b → b < W.heap.size → W'.heap[b]? = W.heap[b]?) : GrowsF d W' B s es :=
  ⟨ownsRow_move (fun b hb hl => ⟨(h.own.lt b hb).1, hm b (by have := (h.own.lt b hb).1; omega) hl⟩) h.own, h.nice, fun e he => (h.rep e he).move fun b hb hl => ⟨hb, hm b hb.1 hl⟩⟩
theorem GrowsF.step {d B : Nat} {W3 : World} {sl v' : Value} {es : List Fl} {nm : ByteArray} {x : V} {l f : Value} {W2 : World} (h : GrowsF d W2 B sl es) (hx : Nice d x) (hrep : Rep (fun b => B < b ∧ sl.ownBlock ≠ some b) d W2 x l f)
    (hown : W3.ownsRow (B + 1) 44 6 v' (es.length + 1) (encFs es ++ [.string nm, .int .i64 x.kind, .int .i64 x.num, .string x.text, l, f])) (hg : W2.grownBy W3 sl.ownBlock) (hv : sl.ownBlock = v'.ownBlock ∨ v'.ownBlock = some W2.heap.size) : GrowsF d W3 B v' (es ++ [⟨nm, x, l, f⟩]) := by
  have hm : ∀ b, (B < b ∧ sl.ownBlock ≠ some b) → b < W2.heap.size → (B < b ∧ v'.ownBlock ≠ some b) ∧ W3.heap[b]? = W2.heap[b]? := by
    intro b h1 h2
    refine ⟨⟨h1.1, ?_⟩, hg.block b h2 (fun e => h1.2 e.symm)⟩
    rcases hv with e | e
    · rw [← e]; exact h1.2
    · rw [e]
      intro e2
      have := Option.some.inj e2
      omega
  refine ⟨?_, ?_, ?_⟩
  · rw [encFs_append, List.length_append]; exact hown
  · intro e he
    rcases List.mem_append.1 he with he | he
    · exact h.nice e he
    · rw [List.mem_singleton.1 he]; exact hx
  · intro e he
    rcases List.mem_append.1 he with he | he
    · exact (h.rep e he).move hm
    · rw [List.mem_singleton.1 he]; exact hrep.move hm

set_option maxRecDepth 100000 in
set_option maxHeartbeats 4000000 in
theorem Made_obj (d : Nat) (D : Int) (hD : 1 < D) (hD2 : D ≤ 1000) (ih : MakesAt d (D - 1)) (u : UInt8) (bs : List UInt8) (a : Option Addr) (cap : Nat) (w : World) (hb : BytesAt w (.slice a (u :: bs).length cap) (u :: bs)) (hT : Tabs w) (hr : (u.toNat : Int) % 6 = 5) : Calls Tryz.prog 17 #[.slice a (u :: bs).length cap, .int .i64 D] w
    fun e w' => ∃ x l f r, e = .returned (.tuple #[.agg #[.int .i64 x.kind, .int .i64 x.num, .string x.text, l, f], r]) ∧ (MadeV (d + 1) w w' (.slice a (u :: bs).length cap) (u :: bs) x l f r ∧ x.kind = 5) := by
  obtain ⟨b, o, rfl, c0, h1, h2, ht⟩ := hb.tail
  obtain ⟨A, hA⟩ : ∃ A : Option Addr, (if cap = 1 then some (⟨b, o, none⟩ : Addr) else some ⟨b, o + 1, none⟩) = A := ⟨_, rfl⟩
  have hlt := lt_of_cell c0
  have hu : u.toNat < 256 := u.toNat_lt
  obtain ⟨c, hc⟩ : ∃ c : Int, (u.toNat : Int) = c := ⟨_, rfl⟩
  rw [hc] at c0 hr
  have c1 : 0 ≤ c := by omega
  have c2 : c ≤ 255 := by omega
  have HT : Hid (Tl (.slice (some ⟨b, o, none⟩) (u :: bs).length cap) (u :: bs) (.slice A bs.length (cap - 1))) := ⟨bs, fun W hW => by obtain ⟨b', o', e, _, _, _, ht'⟩ := hW.tail; cases e; rw [hA] at ht'; exact ht'⟩
  have HB0 : Hid (BytesAt w (.slice (some ⟨b, o, none⟩) (u :: bs).length cap) (u :: bs)) := hb
  simp only [List.length_cons]
  clear ht hb hu hc
  obtain ⟨i0, hi, hz0, hz1, hz2⟩ := info_parts infoF
  go_enter Tryz.func17, Tryz.ntmps17
  go_wp2
  go_loopg [0, 13, 14, 15, 95] 4 (fun gg s0 _ _ _ i wr => ∃ (k : Nat) (fs : List Fl) (sl : Value), k ≤ 4 ∧ 4 - k ≤ gg ∧ i = .int .i64 k ∧ Aside (Tl (.slice (some ⟨b, o, none⟩) (u :: bs).length cap) (u :: bs) s0) ∧ Aside (Below w.heap.size w wr ∧ wr.heap[w.heap.size]? = some (.cells #[.int .i64 0, .int .i64 0, .string ⟨#[]⟩, .slice none 0 0, .slice none 0 0] 28 (0, 0)) ∧ wr.heap[w.heap.size + 1]? = some (.cells #[.int .i64 5, .int .i64 0, .string ⟨#[]⟩, .slice none 0 0, sl] 28 (0, 0)) ∧ GrowsF d wr (w.heap.size + 1) sl fs ∧ fs.length ≤ k ∧ Rises (fs.map Fl.pair) ∧ ∀ e ∈ fs, ∃ j, j < k ∧ e.name = nameAt j))
  case atStart =>
    refine ⟨0, [], .slice none 0 0, Nat.zero_le _, by omega, rfl, HT.out, ((Below.refl _ _).alloc (Nat.le_refl _) _).alloc (by simp) _, heap_alloc2_old, heap_alloc2_new, ⟨World.ownsRow_nil _ _ _ _, fun e he => (by cases he), fun e he => (by cases he)⟩, Nat.le_refl _, trivial, fun e he => (by cases he)⟩
  case round =>
    obtain ⟨k, fs, sl, hk, hgg, rfl, HB, R⟩ := hrel
    obtain ⟨hB, hrow0, hrow1, hG, hfk, hri, hnm⟩ := R.out
    obtain ⟨al, cl, rfl⟩ := ownsRow_slice hG.own
    obtain ⟨bs', hbs'⟩ := HB.out
    have hbs1 := hbs' wr (HB0.out.below hB)
    by_cases hlt' : k < 4
    · have zk : (k : Int) < 4 := by omega
      have hcall := ih wr _ bs' hbs1 (hT.below hB)
      have hTr := hT.below hB
      clear ih
      go_wp2_with fail
      · refine hcall.mono ?_
        rintro e w1 ⟨x, l, f, r, rfl, hnx, hrx, hrb, hb1⟩
        obtain ⟨bl, dl, bf, df, rfl, rfl⟩ := hrx.slices
        have hrow1' := row_below hb1 hrow1
        have hrow0' := row_below hb1 hrow0
        obtain ⟨k0, k1, k2, k3, k4, kf⟩ := row5 hrow1'
        have hz1' : w.heap.size + 1 < w1.heap.size := lt_of_heap hrow1'
        have hG1 : GrowsF d w1 (w.heap.size + 1) (.slice al fs.length cl) fs := hG.move fun b _ hl => hb1.block b hl
        have hB1 : Below w.heap.size w w1 := hB.trans (hb1.mono hB.size)
        have cn := (hTr.below hb1).names k hlt'
        have hln := lt_of_cell cn
        simp only at hln
        obtain ⟨O, hO⟩ : ∃ O, O = Obj.cells #[.int .i64 x.kind, .int .i64 x.num, .string x.text, .slice bl x.list.length dl, .slice bf x.fields.length df] 28 := ⟨_, rfl⟩
        obtain ⟨O6, hO6⟩ : ∃ O6, O6 = Obj.cells #[.string (nameAt k), .int .i64 x.kind, .int .i64 x.num, .string x.text, .slice bl x.list.length dl, .slice bf x.fields.length df] 44 := ⟨_, rfl⟩
        have hG2 : GrowsF d ((w1.alloc O).alloc O6).drew (w.heap.size + 1) (.slice al fs.length cl) fs := hG1.move fun b _ hl => by show ((w1.alloc O).alloc O6).heap[b]? = _; rw [Below.heap_alloc _ _ b (by simp; omega), Below.heap_alloc _ _ b hl]
        have hnews : Aside (∀ j u, [Value.string (nameAt k), .int .i64 x.kind, .int .i64 x.num, .string x.text, .slice bl x.list.length dl, .slice bf x.fields.length df][j]? = some u → ((w1.alloc O).alloc O6).drew.cell? ((⟨w1.heap.size + 1, 0, none⟩ : Addr).add j) = some u) := by
          have h : ((w1.alloc O).alloc O6).drew.heap[w1.heap.size + 1]? = some O6 := heap_alloc2_new
          rw [hO6] at h ⊢
          exact World.news_of_block h
        have hone : Aside (∀ v ∈ [Value.string (nameAt k), .int .i64 x.kind, .int .i64 x.num, .string x.text, .slice bl x.list.length dl, .slice bf x.fields.length df], v.oneCell' = true) := by
          intro v hv
          simp only [List.mem_cons, List.not_mem_nil, or_false] at hv
          rcases hv with rfl | rfl | rfl | rfl | rfl | rfl <;> rfl
        have hown := (show Aside _ from hG2.own)
        have hR3 : Aside (∀ w3, ((w1.alloc O).alloc O6).drew.grownBy w3 (Value.slice al fs.length cl).ownBlock → w3.heap[w.heap.size + 1]? = some (.cells #[.int .i64 5, .int .i64 0, .string ⟨#[]⟩, .slice none 0 0, .slice al fs.length cl] 28 (0, 0)) ∧ w3.heap[w.heap.size]? = some (.cells #[.int .i64 0, .int .i64 0, .string ⟨#[]⟩, .slice none 0 0, .slice none 0 0] 28 (0, 0))) := by
          intro w3 hgr
          have hne : ∀ b, b < w.heap.size + 1 + 1 → some b ≠ (Value.slice al fs.length cl).ownBlock := fun b hb e => by
            have := (hG2.own.lt b e.symm).1
            omega
          have hl0 := lt_of_heap hrow0'
          refine ⟨(hgr.block _ (by simp; omega) (hne _ (by omega))).trans ?_, (hgr.block _ (by simp; omega) (hne _ (by omega))).trans ?_⟩
          · show ((w1.alloc O).alloc O6).heap[_]? = _
            rw [Below.heap_alloc _ _ _ (by simp; omega), Below.heap_alloc _ _ _ (by omega)]; exact hrow1'
          · show ((w1.alloc O).alloc O6).heap[_]? = _
            rw [Below.heap_alloc _ _ _ (by simp; omega), Below.heap_alloc _ _ _ (by omega)]; exact hrow0'
        rw [hO, hO6] at hown hnews hR3
        have S := (show Aside _ from And.intro hnx (And.intro hrx (And.intro hrb (And.intro hG2 (And.intro hB1 (And.intro (lt_of_heap hrow1) (And.intro hb1 (And.intro hO (And.intro hO6 (And.intro (fun k e => (hG.own.lt k e).2) (And.intro hbs' (And.intro hfk (And.intro hri hnm)))))))))))))
        have hsb : w.heap.size + 1 + 1 ≤ w1.heap.size := hz1'
        have hfl : fs.length ≤ 4 := by omega
        have hz0' : w.heap.size < w1.heap.size := by omega
        have hz00 : 0 < w1.heap.size := by omega
        have hz01 : 1 < w1.heap.size + 1 := by omega
        clear hcall hnx hrx hrb hrow0' hrow1' hG1 hG2 hB1 hb1 hB hrow0 hrow1 hG R HB hO hO6 hbs' hbs1 hTr hri hnm hfk
        go_wp2_with fail
        go_region_law (refine step_append_lies _ rfl (.tmp 111) (.tmp 117) 26 rfl (w.heap.size + 1 + 1) 44 i0 _ 6 96 Tryz.underlying26 hi hz0 hz1 hz2 rfl (by decide) _ fs.length (encFs fs) (by simp [Act.eval]) hown.out ⟨w1.heap.size + 1, 0, none⟩ 1 1 [.string (nameAt k), .int .i64 x.kind, .int .i64 x.num, .string x.text, .slice bl x.list.length dl, .slice bf x.fields.length df] (by simp [Act.eval]) rfl hnews.out hone.out (by omega) (by unfold maxLen; omega) (by omega) (by simp; omega) _ rfl ?_; intro g cap' w3 hown3 hgrow3 hlie hlt3; have r3 := (hR3.out w3 hgrow3).1; obtain ⟨m0, m1, m2, m3, m4, mf⟩ := row5 r3; have zz3 : w.heap.size + 1 < w3.heap.size := lt_of_heap r3; have Y := (show Aside _ from And.intro hown3 (And.intro hgrow3 (And.intro hlie r3))); clear hown3 hgrow3 hlie r3)
        all_goals
          go_wp2
          go_roundg (4 - (k + 1))
          case measure => omega
          case rel =>
            obtain ⟨hnx, hrx, hrb, hG2, hB1, hl1, hb1, hO, hO6, hlw, hbs', hfk, hri, hnm⟩ := S.out
            obtain ⟨hown3, hgrow3, hlie, r3⟩ := Y.out
            rw [← hO, ← hO6] at hgrow3 hR3
            have q3 := (hR3.out w3 hgrow3).2
            have hB3 : Below w.heap.size w w3 := ((((hB1.alloc (by omega) O).alloc (by simp; omega) O6).drew).grown hgrow3 (by simp; omega) (fun k e => by have := (hG2.own.lt k e).1; omega))
            have hrx2 : Rep (fun b => w.heap.size + 1 < b ∧ (Value.slice al fs.length cl).ownBlock ≠ some b) d ((w1.alloc O).alloc O6).drew x (.slice bl x.list.length dl) (.slice bf x.fields.length df) := hrx.move fun b hb hl => by
              refine ⟨⟨by omega, fun e => ?_⟩, by show ((w1.alloc O).alloc O6).heap[b]? = _; rw [Below.heap_alloc _ _ b (by simp; omega), Below.heap_alloc _ _ b hl]⟩
              have := hlw b e
              omega
            have hG3 : GrowsF d w3 (w.heap.size + 1) (.slice (some ⟨g, 0, none⟩) (fs.length + 1) cap') (fs ++ [⟨nameAt k, x, .slice bl x.list.length dl, .slice bf x.fields.length df⟩]) := by
              refine hG2.step hnx hrx2 hown3 hgrow3 ?_
              rcases hlie with e | e
              · exact .inl e
              · right; show some g = _; rw [e]; simp
            refine ⟨k + 1, fs ++ [⟨nameAt k, x, .slice bl x.list.length dl, .slice bf x.fields.length df⟩], .slice (some ⟨g, 0, none⟩) (fs.length + 1) cap', by omega, by omega, by go_num, ?_, hB3.setCell (by simp) _, ?_, ?_, hG3.move fun b hb _ => heap_setCell_ne _ _ _ (by simp; omega), by simp; omega, ?_, ?_⟩
            · obtain ⟨bs2, h2⟩ := hrb
              exact ⟨bs2, fun W hW => h2 W (hbs' W hW)⟩
            · rw [heap_setCell_ne _ _ _ (by simp)]; exact q3
            · exact setCell_row r3 (i := 4) _
            · rw [List.map_append]
              refine rises_snoc hri fun p hp => ?_
              obtain ⟨e, he, rfl⟩ := List.mem_map.1 hp
              obtain ⟨j, hj, hje⟩ := hnm e he
              show cmpT e.name (nameAt k) < 0
              rw [hje]
              exact nameAt_less hj hlt'
            · intro e he
              rcases List.mem_append.1 he with he | he
              · obtain ⟨j, hj, hje⟩ := hnm e he
                exact ⟨j, by omega, hje⟩
              · rw [List.mem_singleton.1 he]
                exact ⟨k, by omega, rfl⟩
      · go_roundg (4 - (k + 1))
        case measure => omega
        case rel =>
          obtain ⟨hB, hrow0, hrow1, hG, hfk, hri, hnm⟩ := R.out
          exact ⟨k + 1, fs, _, by omega, by omega, by go_num, HB.out, hB, hrow0, hrow1, hG, by omega, hri, fun e he => (hnm e he).imp fun j hj => ⟨by omega, hj.2⟩⟩
    · have zk : ¬ (k : Int) < 4 := by omega
      obtain ⟨k0, k1, k2, k3, k4, kf⟩ := row5 hrow1
      obtain ⟨j0, j1, j2, j3, j4, jf⟩ := row5 hrow0
      have hz1' : w.heap.size + 1 < wr.heap.size := lt_of_heap hrow1
      have S := (show Aside _ from And.intro hB (And.intro hG (And.intro hfk (And.intro hri hnm))))
      clear ih hB hrow0 hrow1 hG R hbs' hbs1 hri hnm hfk
      go_wp2
      refine bodyPost_ret (v := .tuple #[.agg #[.int .i64 5, .int .i64 0, .string ⟨#[]⟩, .slice none 0 0, .slice al fs.length cl], _]) (by simp [results, Tryz.results17, go_sem, j0, j1, j2, j3, j4]) rfl ⟨⟨5, 0, ⟨#[]⟩, [], fs.map Fl.pair⟩, _, _, _, rfl, ⟨?_, ?_, HB.out, ?_⟩, rfl⟩
      · obtain ⟨hB, hG, hfk, hri, hnm⟩ := S.out
        refine ⟨show (0 : Int) ≤ 5 by decide, show (5 : Int) ≤ 5 by decide, ⟨show (-9223372036854775808 : Int) ≤ 0 by decide, show (0 : Int) ≤ 9223372036854775807 by decide⟩, show Wd 5 0 ⟨#[]⟩ from Wd.no _ _ (by decide), by simp, by simp; omega, hri, fun y hy => (by cases hy), fun p hp => ?_⟩
        obtain ⟨e, he, rfl⟩ := List.mem_map.1 hp
        obtain ⟨j, _, hje⟩ := hnm e he
        refine ⟨?_, hG.nice e he⟩
        exact ⟨j, hje⟩
      · obtain ⟨hB, hG, hfk, hri, hnm⟩ := S.out
        have hne : ∀ b, w.heap.size < b → (set5W wr w.heap.size 0 1 2 3 4 (.int .i64 5) (.int .i64 0) (.string ⟨#[]⟩) (.slice none 0 0) (.slice al fs.length cl)).heap[b]? = wr.heap[b]? := fun b hb => set5W_ne _ _ _ _ _ _ _ _ _ _ _ _ (by omega)
        have hG' := hG.move (W' := set5W wr w.heap.size 0 1 2 3 4 (.int .i64 5) (.int .i64 0) (.string ⟨#[]⟩) (.slice none 0 0) (.slice al fs.length cl)) fun b hb _ => hne b (by omega)
        exact ⟨⟨[], rfl, RowAt.nil, fun e he => (by cases he)⟩, ⟨fs, rfl, ⟨ownsRow_move (fun b _ _ => ⟨Nat.zero_le _, rfl⟩) hG'.own, by omega, fun b hb => by have := (hG'.own.lt b hb).1; show w.heap.size ≤ b; omega⟩, fun e he => (hG'.rep e he).move fun b hb _ => ⟨by omega, rfl⟩⟩⟩
      · exact set5W_below S.out.1 (Nat.le_refl _) 0 1 2 3 4 _ _ _ _ _
end Go.Proofs.YtgcccihnlecpnaaGreatDoor

namespace Go.Proofs.YtgcccihnlecpnaaGreatDoor
open Go.RowKit

theorem Made_any : ∀ (d : Nat), d ≤ 100 → MakesAt d ((d : Int) + 1)
  | d, hd, W, s, [], hb, hT => by
    obtain ⟨a, cap, rfl, _, _, _⟩ := hb
    exact Made_empty d _ a cap W
  | d, hd, W, s, u :: bs, hb, hT => by
    obtain ⟨a, cap, rfl⟩ : ∃ a cap, s = .slice a (u :: bs).length cap := by
      obtain ⟨a, cap, h, _⟩ := hb
      exact ⟨a, cap, h⟩
    have hr : (u.toNat : Int) % 6 = 0 ∨ (u.toNat : Int) % 6 = 1 ∨ (u.toNat : Int) % 6 = 2 ∨ (u.toNat : Int) % 6 = 3 ∨ (u.toNat : Int) % 6 = 4 ∨ (u.toNat : Int) % 6 = 5 := by omega
    rcases hr with hr | hr | hr | hr | hr | hr
    · exact Made_zero d _ u bs a cap W hb hr
    · exact Made_bool d _ u bs a cap W hb hr
    · exact Made_int d _ u bs a cap W hb hr
    · exact Made_text d _ u bs a cap W hb hT hr
    · cases d with
      | zero => exact Made_four 0 _ u bs a cap W hb (by simp) hr
      | succ d =>
        have ih := Made_any d (by omega)
        rw [show ((d : Int) + 1) = (((d + 1 : Nat) : Int) + 1) - 1 by omega] at ih
        exact Made_list d _ (by omega) (by omega) ih u bs a cap W hb hT hr
    · cases d with
      | zero => exact Made_five 0 _ u bs a cap W hb (by simp) hr
      | succ d =>
        have ih := Made_any d (by omega)
        rw [show ((d : Int) + 1) = (((d + 1 : Nat) : Int) + 1) - 1 by omega] at ih
        refine (Made_obj d _ (by omega) (by omega) ih u bs a cap W hb hT hr).mono ?_
        rintro e w' ⟨x, l, f, r, he, h, _⟩
        exact ⟨x, l, f, r, he, h⟩

theorem BytesAt.take {W : World} {a : Option Addr} {cap : Nat} {bs : List UInt8} (h : BytesAt W (.slice a bs.length cap) bs) (n : Nat) : BytesAt W (.slice a (bs.take n).length cap) (bs.take n) := by
  obtain ⟨a', cap', h1, h2, h3, h4⟩ := h
  simp only [Value.slice.injEq, true_and] at h1
  obtain ⟨rfl, rfl⟩ := h1
  refine ⟨_, _, rfl, by simp; omega, h3, fun hne => ?_⟩
  obtain ⟨b, o, e, h6⟩ := h4 (fun e => hne (by rw [e]; simp))
  refine ⟨b, o, e, fun j v hj => h6 j v ?_⟩
  rw [List.getElem?_take] at hj
  split at hj
  · exact hj
  · cases hj

/-- a value as the law makes it, and where it lies. -/
def OfV (w w' : World) (x : V) (l f : Value) : Prop := Nice 3 x ∧ Rep (fun k => w.heap.size ≤ k) 3 w' x l f ∧ Below w.heap.size w w'

set_option maxHeartbeats 1000000 in
theorem Of_any (s : Value) (bs : List UInt8) (w : World) (hb : BytesAt w s bs) (hT : Tabs w) : Calls Tryz.prog 8 #[s] w
    fun e w' => ∃ x l f, e = .returned (.agg #[.int .i64 x.kind, .int .i64 x.num, .string x.text, l, f]) ∧ OfV w w' x l f := by
  obtain ⟨a, cap, rfl⟩ : ∃ a cap, s = .slice a bs.length cap := by
    obtain ⟨a, cap, h, _⟩ := hb
    exact ⟨a, cap, h⟩
  have hcap : bs.length ≤ cap ∧ cap ≤ 9223372036854775807 := by
    obtain ⟨a', cap', h1, h2, h3, h4⟩ := hb
    simp only [Value.slice.injEq, true_and] at h1
    obtain ⟨rfl, rfl⟩ := h1
    exact ⟨h2, h3⟩
  obtain ⟨h1, h2⟩ := hcap
  have hbt := hb.take 60
  rw [List.length_take] at hbt
  have hm0 : 0 ≤ min (bs.length : Int) 60 := by omega
  have hm1 : min (bs.length : Int) 60 ≤ (cap : Int) := by omega
  have hmn : (min (bs.length : Int) 60).toNat = min 60 bs.length := by omega
  have hM := fun o => Made_any 3 (by omega) (w.alloc o) _ _ (hbt.below ((Below.refl _ _).alloc (Nat.le_refl _) _)) (hT.below ((Below.refl _ _).alloc (Nat.le_refl _) _))
  rw [show (((3 : Nat) : Int) + 1) = 4 from rfl] at hM
  clear hbt hb
  go_enter Tryz.func8, Tryz.ntmps8
  go_wp2_with fail
  refine (hM _).mono ?_
  rintro e w1 ⟨x, l, f, r, rfl, hnx, hrx, -, hb1⟩
  obtain ⟨bl, dl, bf, df, rfl, rfl⟩ := hrx.slices
  have q1 := row_below hb1 (heap_alloc_new w _)
  obtain ⟨o0, o1, o2, o3, o4, of⟩ := row5 q1
  have hz1 : w.heap.size < w1.heap.size := lt_of_heap q1
  have hB1 : Below w.heap.size w w1 := ((Below.refl _ _).alloc (Nat.le_refl _) _).trans (hb1.mono (by simp))
  have S := (show Hid _ from And.intro hnx hrx)
  clear hnx hrx hb1 q1
  go_wp2
  refine bodyPost_ret (v := .agg #[.int .i64 x.kind, .int .i64 x.num, .string x.text, .slice bl x.list.length dl, .slice bf x.fields.length df]) (by simp [results, Tryz.results8, go_sem, o0, o1, o2, o3, o4, hz1]) rfl ⟨x, _, _, rfl, S.out.1, ?_, ?_⟩
  · refine S.out.2.move fun b hb hl => ⟨by simp at hb; omega, ?_⟩
    rw [Below.heap_alloc _ _ b (by simpa using hl)]
    exact set5W_ne w1 w.heap.size 0 1 2 3 4 _ _ _ _ _ (by simp at hb; omega)
  · exact (set5W_below hB1 (Nat.le_refl _) 0 1 2 3 4 _ _ _ _ _).alloc (by rw [set5W_size]; omega) _
end Go.Proofs.YtgcccihnlecpnaaGreatDoor

namespace Go.Proofs.YtgcccihnlecpnaaGreatDoor
open Go.RowKit

def DocV (w w' : World) (x : V) (l f : Value) : Prop := OfV w w' x l f ∧ x.kind = 5

theorem run_append_zero {P : Program} {w : World} (t ty e : TypeId) (i : TypeInfo) (B : Nat) (a : Option Addr) (c : Nat) (ht : P.underlying t = some (.slice e)) (hi : P.info? e = some i) :
    (Builtin.append_ #[t, t] ty #[.slice (some ⟨B, 0, none⟩) 1 1, .slice a 0 c]).run P w = .ok (.slice (some ⟨B, 0, none⟩) 1 1) w := by
  cases a with
  | none => simp [Builtin.append_, run_underlying ht, sizeOf, typeInfo, hi, Builtin.lenOf, Builtin.firstCells, storeCells]
  | some ad => simp [Builtin.append_, run_underlying ht, sizeOf, typeInfo, hi, Builtin.lenOf, Builtin.firstCells, storeCells, loadCells, loadCellsFrom]

theorem wpList_append_zero {P : Program} {w : World} {ops : Array Oper} {rest : List Oper} {o : Oper} {a : Act} {Q : Exit → Act → World → Prop} (hgd : o.guard = none) (s x : Operand) (t : TypeId)
    (ho : o.op = .call { callee := .builtin .append, args := #[s, x], argTypes := #[t, t] }) (e : TypeId) (i : TypeInfo) (ht : P.underlying t = some (.slice e)) (hi : P.info? e = some i)
    (B : Nat) (a' : Option Addr) (c : Nat) (hs : a.eval s = .slice (some ⟨B, 0, none⟩) 1 1) (hx : a.eval x = .slice a' 0 c)
    (h : wpList P ops Q rest (a.put o.dst (.slice (some ⟨B, 0, none⟩) 1 1)) w) : wpList P ops Q (o :: rest) a w := by
  refine wpList_plain hgd fun K hK => ?_
  have hrun := run_append_zero (P := P) (w := w) t o.type e i B a' c ht hi
  unfold Oper.wp
  simp [execOp, ho, resolve, invoke, builtin, hs, hx, hrun, Result.andThen]
  exact hK _ _ h

theorem cell_of_block {W : World} {b j : Nat} {cs : Array Value} {t : TypeId} {v : Value} (h : W.heap[b]? = some (.cells cs t (0, 0))) (hj : cs[j]? = some v) : W.cell? ⟨b, j, none⟩ = some v := by
  simp only [World.cell?, h]
  exact hj
theorem infoU8 : (Tryz.prog.info? 5).map (fun i => (i.zero, i.size, i.bytes)) = some (some (.int .u8 0), 1, 1) := by kernel_rfl
set_option maxRecDepth 100000 in
theorem Made_doc (u : UInt8) (bs : List UInt8) (a : Option Addr) (cap : Nat) (w : World) (hb : BytesAt w (.slice a (bs.length + 1) cap) (u :: bs)) (hT : Tabs w) (hr : (u.toNat : Int) % 6 = 5) : Calls Tryz.prog 17 #[.slice a (bs.length + 1) cap, .int .i64 4] w
    fun e w' => ∃ x l f r, e = .returned (.tuple #[.agg #[.int .i64 x.kind, .int .i64 x.num, .string x.text, l, f], r]) ∧ (MadeV 3 w w' (.slice a (bs.length + 1) cap) (u :: bs) x l f r ∧ x.kind = 5) :=
  Made_obj 2 4 (by omega) (by omega) (Made_any 2 (by omega)) u bs a cap w hb hT hr

theorem doc_byte (u : UInt8) : ((UInt8.ofNat (5 + 6 * (u.toNat % 16))).toNat : Int) = 5 + 6 * ((u.toNat : Int) % 16) := by
  have h : (UInt8.ofNat (5 + 6 * (u.toNat % 16))).toNat = 5 + 6 * (u.toNat % 16) := by simp; omega
  rw [h]; omega
theorem own_bytes {W : World} {base m : Nat} {v : Value} {k : Int} {K : UInt8} {bs : List UInt8} (hk : (K.toNat : Int) = k) (hm : m = bs.length) (h : W.ownsRow base 5 1 v (1 + m) ([.int .u8 k] ++ bs.map fun u => .int .u8 u.toNat)) :
    ∃ g cap, v = .slice (some ⟨g, 0, none⟩) (bs.length + 1) cap ∧ BytesAt W (.slice (some ⟨g, 0, none⟩) (bs.length + 1) cap) (K :: bs) := by
  obtain ⟨h1, h2⟩ := h
  subst hm
  subst hk
  rcases h2 with ⟨_, h2⟩ | ⟨g, cap, cur, rfl, _, hg, hn, hc, hs, ht⟩
  · omega
  · refine ⟨g, cap, by rw [Nat.add_comm], _, _, rfl, by simp; omega, by unfold maxLen at hc; omega, fun _ => ⟨_, _, rfl, fun j u hj => ?_⟩⟩
    refine cell_of_block (by rw [hg]) ?_
    have hj2 : ((K :: bs).map fun u : UInt8 => Value.int .u8 u.toNat)[j]? = some (.int .u8 u.toNat) := by rw [List.getElem?_map, hj]; rfl
    have hjl : j < (1 + bs.length) * 1 := by have := (List.getElem?_eq_some_iff.1 hj).1; simp at this; omega
    have e : cur.toList.take ((1 + bs.length) * 1) = (K :: bs).map fun u : UInt8 => Value.int .u8 u.toNat := by rw [ht]; rfl
    rw [← e, List.getElem?_take, if_pos hjl, Array.getElem?_toList] at hj2
    rw [Nat.zero_add]
    exact hj2

end Go.Proofs.YtgcccihnlecpnaaGreatDoor
