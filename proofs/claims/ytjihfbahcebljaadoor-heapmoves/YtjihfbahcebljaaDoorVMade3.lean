/-
  The law's Made at lists, by its contract. No conditions beyond those stated.
-/
import Derived.Test.YtjihfbahcebljaaDoorVMade2
import Derived.Test.YtjihfbahcebljaaDoorVSet
import Derived.Deep.AppendLies
namespace Go.Proofs.YtjihfbahcebljaaDoor
open Go.RowKit

/-- the elements that were made so far: a list that grows. -/
structure Grows (d : Nat) (W : World) (B : Nat) (s : Value) (es : List El) : Prop where
  own : W.ownsRow (B + 1) 38 5 s es.length (encEs es)
  nice : ∀ e ∈ es, Nice d e.v
  rep : ∀ e ∈ es, Rep (fun b => B < b ∧ s.ownBlock ≠ some b) d W e.v e.l e.f
theorem Grows.move {d B : Nat} {W W' : World} {s : Value} {es : List El} (h : Grows d W B s es) (hm : ∀ b, B < b → b < W.heap.size → W'.heap[b]? = W.heap[b]?) : Grows d W' B s es :=
  ⟨ownsRow_move (fun b hb hl => ⟨(h.own.lt b hb).1, hm b (by have := (h.own.lt b hb).1; omega) hl⟩) h.own, h.nice, fun e he => (h.rep e he).move fun b hb hl => ⟨hb, hm b hb.1 hl⟩⟩
theorem ownsRow_slice {W : World} {base t k n : Nat} {s : Value} {xs : List Value} (h : W.ownsRow base t k s n xs) : ∃ a c, s = .slice a n c := by
  rcases h.2 with ⟨rfl, rfl⟩ | ⟨g, cap, cur, rfl, _⟩
  · exact ⟨_, _, rfl⟩
  · exact ⟨_, _, rfl⟩
theorem Grows.step {d B : Nat} {W3 : World} {sl v' : Value} {es : List El} {x : V} {l f : Value} {W2 : World} (h : Grows d W2 B sl es) (hx : Nice d x) (hrep : Rep (fun b => B < b ∧ sl.ownBlock ≠ some b) d W2 x l f)
    (hown : W3.ownsRow (B + 1) 38 5 v' (es.length + 1) (encEs es ++ [.int .i64 x.kind, .int .i64 x.num, .string x.text, l, f])) (hg : W2.grownBy W3 sl.ownBlock) (hv : sl.ownBlock = v'.ownBlock ∨ v'.ownBlock = some W2.heap.size) : Grows d W3 B v' (es ++ [⟨x, l, f⟩]) := by
  have hm : ∀ b, (B < b ∧ sl.ownBlock ≠ some b) → b < W2.heap.size → (B < b ∧ v'.ownBlock ≠ some b) ∧ W3.heap[b]? = W2.heap[b]? := by
    intro b h1 h2
    refine ⟨⟨h1.1, ?_⟩, hg.block b h2 (fun e => h1.2 e.symm)⟩
    rcases hv with e | e
    · rw [← e]; exact h1.2
    · rw [e]
      intro e2
      have := Option.some.inj e2
      omega
  refine ⟨?_, ?_, ?_⟩
  · rw [encEs_append, List.length_append]; exact hown
  · intro e he
    rcases List.mem_append.1 he with he | he
    · exact h.nice e he
    · rw [List.mem_singleton.1 he]; exact hx
  · intro e he
    rcases List.mem_append.1 he with he | he
    · exact (h.rep e he).move hm
    · rw [List.mem_singleton.1 he]; exact hrep.move hm

/-- Made, so deep. -/
def MakesAt (d : Nat) (D : Int) : Prop := ∀ (W : World) (s : Value) (bs : List UInt8), BytesAt W s bs → Tabs W → Calls Tryd.prog 24 #[s, .int .i64 D] W
  fun e w' => ∃ x l f r, e = .returned (.tuple #[.agg #[.int .i64 x.kind, .int .i64 x.num, .string x.text, l, f], r]) ∧ MadeV d W w' s bs x l f r

set_option maxRecDepth 100000 in
set_option maxHeartbeats 2000000 in
theorem Made_list (d : Nat) (D : Int) (hD : 1 < D) (hD2 : D ≤ 1000) (ih : MakesAt d (D - 1)) (u : UInt8) (bs : List UInt8) (a : Option Addr) (cap : Nat) (w : World) (hb : BytesAt w (.slice a (u :: bs).length cap) (u :: bs)) (hT : Tabs w) (hr : (u.toNat : Int) % 6 = 4) : Calls Tryd.prog 24 #[.slice a (u :: bs).length cap, .int .i64 D] w
    fun e w' => ∃ x l f r, e = .returned (.tuple #[.agg #[.int .i64 x.kind, .int .i64 x.num, .string x.text, l, f], r]) ∧ MadeV (d + 1) w w' (.slice a (u :: bs).length cap) (u :: bs) x l f r := by
  obtain ⟨b, o, rfl, c0, h1, h2, ht⟩ := hb.tail
  obtain ⟨A, hA⟩ : ∃ A : Option Addr, (if cap = 1 then some (⟨b, o, none⟩ : Addr) else some ⟨b, o + 1, none⟩) = A := ⟨_, rfl⟩
  have hlt := lt_of_cell c0
  have hu : u.toNat < 256 := u.toNat_lt
  obtain ⟨c, hc⟩ : ∃ c : Int, (u.toNat : Int) = c := ⟨_, rfl⟩
  rw [hc] at c0 hr
  have c1 : 0 ≤ c := by omega
  have c2 : c ≤ 255 := by omega
  have HT : Hid (Tl (.slice (some ⟨b, o, none⟩) (u :: bs).length cap) (u :: bs) (.slice A bs.length (cap - 1))) := ⟨bs, fun W hW => by obtain ⟨b', o', e, _, _, _, ht'⟩ := hW.tail; cases e; rw [hA] at ht'; exact ht'⟩
  have HB0 : Hid (BytesAt w (.slice (some ⟨b, o, none⟩) (u :: bs).length cap) (u :: bs)) := hb
  obtain ⟨m, hm⟩ : ∃ m : Nat, c / 6 % 4 = (m : Int) := ⟨(c / 6 % 4).toNat, by omega⟩
  have hm4 : m ≤ 3 := by omega
  simp only [List.length_cons]
  clear ht hb hu hc
  obtain ⟨i0, hi, hz0, hz1, hz2⟩ := info_parts infoV
  go_enter Tryd.func24, Tryd.ntmps24
  go_wp2
  go_loopg [0, 9, 10, 11] m (fun gg s0 i _ _ wr => ∃ (k : Nat) (es : List El) (sl : Value), k ≤ m ∧ m - k ≤ gg ∧ i = .int .i64 k ∧ es.length = k ∧ Aside (Tl (.slice (some ⟨b, o, none⟩) (u :: bs).length cap) (u :: bs) s0) ∧ Aside (Below w.heap.size w wr ∧ wr.heap[w.heap.size]? = some (.cells #[.int .i64 0, .int .i64 0, .string ⟨#[]⟩, .slice none 0 0, .slice none 0 0] 38 (0, 0)) ∧ wr.heap[w.heap.size + 1]? = some (.cells #[.int .i64 4, .int .i64 0, .string ⟨#[]⟩, sl, .slice none 0 0] 38 (0, 0)) ∧ Grows d wr (w.heap.size + 1) sl es))
  case atStart =>
    refine ⟨0, [], .slice none 0 0, Nat.zero_le _, by omega, rfl, rfl, HT.out, ((Below.refl _ _).alloc (Nat.le_refl _) _).alloc (by simp) _, heap_alloc2_old, heap_alloc2_new, ⟨World.ownsRow_nil _ _ _ _, fun e he => (by cases he), fun e he => (by cases he)⟩⟩
  case round =>
    obtain ⟨k, es, sl, hk, hgg, rfl, rfl, HB, R⟩ := hrel
    obtain ⟨hB, hrow0, hrow1, hG⟩ := R.out
    obtain ⟨al, cl, rfl⟩ := ownsRow_slice hG.own
    obtain ⟨bs', hbs'⟩ := HB.out
    have hbs1 := hbs' wr (HB0.out.below hB)
    by_cases hlt' : es.length < m
    · have zk : (es.length : Int) < (m : Int) := by omega
      have hcall := ih wr _ bs' hbs1 (hT.below hB)
      clear ih
      go_wp2_with fail
      refine hcall.mono ?_
      rintro e w1 ⟨x, l, f, r, rfl, hnx, hrx, hrb, hb1⟩
      obtain ⟨bl, dl, bf, df, rfl, rfl⟩ := hrx.slices
      have hrow1' := row_below hb1 hrow1
      have hrow0' := row_below hb1 hrow0
      obtain ⟨k0, k1, k2, k3, k4, kf⟩ := row5 hrow1'
      have hz1' : w.heap.size + 1 < w1.heap.size := lt_of_heap hrow1'
      have hG1 : Grows d w1 (w.heap.size + 1) (.slice al es.length cl) es := hG.move fun b _ hl => hb1.block b hl
      have hB1 : Below w.heap.size w w1 := hB.trans (hb1.mono hB.size)
      obtain ⟨O, hO⟩ : ∃ O, O = Obj.cells #[.int .i64 x.kind, .int .i64 x.num, .string x.text, .slice bl x.list.length dl, .slice bf x.fields.length df] 38 := ⟨_, rfl⟩
      have hG2 : Grows d ((w1.alloc O).alloc O) (w.heap.size + 1) (.slice al es.length cl) es := hG1.move fun b _ hl => by rw [Below.heap_alloc _ _ b (by simp; omega), Below.heap_alloc _ _ b hl]
      have hnews : Aside (∀ j u, [Value.int .i64 x.kind, .int .i64 x.num, .string x.text, .slice bl x.list.length dl, .slice bf x.fields.length df][j]? = some u → ((w1.alloc O).alloc O).cell? ((⟨w1.heap.size + 1, 0, none⟩ : Addr).add j) = some u) := by
        have h : ((w1.alloc O).alloc O).heap[w1.heap.size + 1]? = some O := heap_alloc2_new
        rw [hO] at h ⊢
        exact World.news_of_block h
      have hone : Aside (∀ v ∈ [Value.int .i64 x.kind, .int .i64 x.num, .string x.text, .slice bl x.list.length dl, .slice bf x.fields.length df], v.oneCell' = true) := by
        intro v hv
        simp only [List.mem_cons, List.not_mem_nil, or_false] at hv
        rcases hv with rfl | rfl | rfl | rfl | rfl <;> rfl
      have hown := (show Aside _ from hG2.own)
      have hszz : w1.heap.size + 1 + 1 = ((w1.alloc O).alloc O).heap.size := by simp
      have hR3 : Aside (∀ w3, ((w1.alloc O).alloc O).grownBy w3 (Value.slice al es.length cl).ownBlock → w3.heap[w.heap.size + 1]? = some (.cells #[.int .i64 4, .int .i64 0, .string ⟨#[]⟩, .slice al es.length cl, .slice none 0 0] 38 (0, 0)) ∧ w3.heap[w.heap.size]? = some (.cells #[.int .i64 0, .int .i64 0, .string ⟨#[]⟩, .slice none 0 0, .slice none 0 0] 38 (0, 0))) := by
        intro w3 hgr
        have hne : ∀ b, b < w.heap.size + 1 + 1 → some b ≠ (Value.slice al es.length cl).ownBlock := fun b hb e => by
          have := (hG2.own.lt b e.symm).1
          omega
        have hl0 := lt_of_heap hrow0'
        refine ⟨(hgr.block _ (by simp; omega) (hne _ (by omega))).trans ?_, (hgr.block _ (by simp; omega) (hne _ (by omega))).trans ?_⟩
        · rw [Below.heap_alloc _ _ _ (by simp; omega), Below.heap_alloc _ _ _ (by omega)]; exact hrow1'
        · rw [Below.heap_alloc _ _ _ (by simp; omega), Below.heap_alloc _ _ _ (by omega)]; exact hrow0'
      rw [hO] at hown hnews hszz hR3
      have S := (show Aside _ from And.intro hnx (And.intro hrx (And.intro hrb (And.intro hrow0' (And.intro hrow1' (And.intro hG2 (And.intro hB1 (And.intro (lt_of_heap hrow1) (And.intro hb1 (And.intro hO (And.intro (fun k e => (hG.own.lt k e).2) hbs')))))))))))
      have hsb : w.heap.size + 1 + 1 ≤ w1.heap.size := hz1'
      clear hcall hnx hrx hrb hrow0' hrow1' hG1 hG2 hB1 hb1 hB hrow0 hrow1 hG R HB hO hbs' hbs1
      go_wp2_with (first | (at_builtin; refine wpList_append_lies _ rfl (.tmp 78) (.tmp 80) 35 rfl (w.heap.size + 1 + 1) 38 i0 _ 5 80 Tryd.underlying35 hi hz0 hz1 hz2 rfl (by decide) _ es.length (encEs es) rfl hown.out ⟨w1.heap.size + 1, 0, none⟩ 1 1 [.int .i64 x.kind, .int .i64 x.num, .string x.text, .slice bl x.list.length dl, .slice bf x.fields.length df] rfl rfl hnews.out hone.out (by omega) (by unfold maxLen; omega) (by omega) (by simp; omega) _ rfl ?_; intro g cap' w3 hown3 hgrow3 hlie hlt3; have r3 := (hR3.out w3 hgrow3).1; obtain ⟨m0, m1, m2, m3, m4, mf⟩ := row5 r3; have zz3 : w.heap.size + 1 < w3.heap.size := lt_of_heap r3; have Y := (show Aside _ from And.intro hown3 (And.intro hgrow3 (And.intro hlie r3))); clear hown3 hgrow3 hlie r3))
      go_roundg (m - (es.length + 1))
      case measure => omega
      case rel =>
        obtain ⟨hnx, hrx, hrb, hrow0', hrow1', hG2, hB1, hl1, hb1, hO, hlw, hbs'⟩ := S.out
        obtain ⟨hown3, hgrow3, hlie, r3⟩ := Y.out
        rw [← hO] at hgrow3 hR3
        have q3 := (hR3.out w3 hgrow3).2
        have hB3 : Below w.heap.size w w3 := (((hB1.alloc (by omega) O).alloc (by simp; omega) O).grown hgrow3 (by simp; omega) (fun k e => by have := (hG2.own.lt k e).1; omega))
        have hrx2 : Rep (fun b => w.heap.size + 1 < b ∧ (Value.slice al es.length cl).ownBlock ≠ some b) d ((w1.alloc O).alloc O) x (.slice bl x.list.length dl) (.slice bf x.fields.length df) := hrx.move fun b hb hl => by
          refine ⟨⟨by omega, fun e => ?_⟩, by rw [Below.heap_alloc _ _ b (by simp; omega), Below.heap_alloc _ _ b hl]⟩
          have := hlw b e
          omega
        have hG3 : Grows d w3 (w.heap.size + 1) (.slice (some ⟨g, 0, none⟩) (es.length + 1) cap') (es ++ [⟨x, .slice bl x.list.length dl, .slice bf x.fields.length df⟩]) := by
          refine hG2.step hnx hrx2 hown3 hgrow3 ?_
          rcases hlie with e | e
          · exact .inl e
          · right; show some g = _; rw [e]; simp
        have hne : ∀ b, w.heap.size + 1 < b → (w3.setCell ⟨w.heap.size + 1, 3, none⟩ (.slice (some ⟨g, 0, none⟩) (es.length + 1) cap')).heap[b]? = w3.heap[b]? := fun b hb => heap_setCell_ne _ _ _ (by simp; omega)
        refine ⟨es.length + 1, es ++ [⟨x, .slice bl x.list.length dl, .slice bf x.fields.length df⟩], .slice (some ⟨g, 0, none⟩) (es.length + 1) cap', by omega, by omega, by go_num, by simp, ?_, hB3.setCell (by simp) _, ?_, ?_, hG3.move fun b hb _ => hne b hb⟩
        · obtain ⟨bs2, h2⟩ := hrb
          exact ⟨bs2, fun W hW => h2 W (hbs' W hW)⟩
        · rw [heap_setCell_ne _ _ _ (by simp)]; exact q3
        · exact setCell_row r3 (i := 3) _
    · have zk : ¬ (es.length : Int) < (m : Int) := by omega
      obtain ⟨k0, k1, k2, k3, k4, kf⟩ := row5 hrow1
      obtain ⟨j0, j1, j2, j3, j4, jf⟩ := row5 hrow0
      have hz1' : w.heap.size + 1 < wr.heap.size := lt_of_heap hrow1
      have S := (show Aside _ from And.intro hB hG)
      clear ih hB hrow0 hrow1 hG R hbs' hbs1
      go_wp2
      refine bodyPost_ret (v := .tuple #[.agg #[.int .i64 4, .int .i64 0, .string ⟨#[]⟩, .slice al es.length cl, .slice none 0 0], _]) (by simp [results, Tryd.results24, go_sem, j0, j1, j2, j3, j4]) rfl ⟨⟨4, 0, ⟨#[]⟩, es.map El.v, []⟩, _, _, _, rfl, ?_, ?_, HB.out, ?_⟩
      · obtain ⟨hB, hG⟩ := S.out
        refine ⟨show (0 : Int) ≤ 4 by decide, show (4 : Int) ≤ 5 by decide, ⟨show (-9223372036854775808 : Int) ≤ 0 by decide, show (0 : Int) ≤ 9223372036854775807 by decide⟩, show Wd 4 0 ⟨#[]⟩ from Wd.no _ _ (by decide), by simp; omega, by simp, trivial, fun y hy => ?_, fun p hp => by cases hp⟩
        obtain ⟨e, he, rfl⟩ := List.mem_map.1 hy
        exact hG.nice e he
      · obtain ⟨hB, hG⟩ := S.out
        have hne : ∀ b, w.heap.size < b → (set5W wr w.heap.size 0 1 2 3 4 (.int .i64 4) (.int .i64 0) (.string ⟨#[]⟩) (.slice al es.length cl) (.slice none 0 0)).heap[b]? = wr.heap[b]? := fun b hb => set5W_ne _ _ _ _ _ _ _ _ _ _ _ _ (by omega)
        have hG' := hG.move (W' := set5W wr w.heap.size 0 1 2 3 4 (.int .i64 4) (.int .i64 0) (.string ⟨#[]⟩) (.slice al es.length cl) (.slice none 0 0)) fun b hb _ => hne b (by omega)
        exact ⟨⟨es, rfl, ⟨ownsRow_move (fun b _ _ => ⟨Nat.zero_le _, rfl⟩) hG'.own, by omega, fun b hb => by have := (hG'.own.lt b hb).1; show w.heap.size ≤ b; omega⟩, fun e he => (hG'.rep e he).move fun b hb _ => ⟨by omega, rfl⟩⟩, ⟨[], rfl, RowAt.nil, fun e he => by cases he⟩⟩
      · exact set5W_below S.out.1 (Nat.le_refl _) 0 1 2 3 4 _ _ _ _ _
end Go.Proofs.YtjihfbahcebljaaDoor
