/-
  The law's Made at objects, by its contract. No conditions beyond those stated.
  The program's reader of keys: bytes, numbers, texts, rows. Conditions: as stated.
  package text's Valid by its contract: a text is UTF-8. Condition: the tables of package utf8 lie as they are laid.
  package value's Depth by its contract. No conditions beyond those stated.
  slices.BinarySearchFunc over fields whose names rise. Conditions: as stated.
  Fields whose names rise: where a name stands. No conditions beyond those stated.
-/
import Derived.Test.YtfpkkobclkdniaaGreatDoorU4
import Derived.Deep.RegionLaw
import Derived.Test.YtfpkkobclkdniaaGreatDoorU5
import Derived.Lib.Bytes2
import Derived.Test.YtfpkkobclkdniaaGreatDoorU3
import Derived.Shelf.Unicode.ValidAny
import Derived.Lib.OthersKept
namespace Go.Proofs.YtfpkkobclkdniaaGreatDoor
open Go.RowKit

/-- the elements that were made so far: a list that grows. -/
structure GrowsF (d : Nat) (W : World) (B : Nat) (s : Value) (es : List Fl) : Prop where
  own : W.ownsRow (B + 1) 72 6 s es.length (encFs es)
  nice : ∀ e ∈ es, Nice d e.v
  rep : ∀ e ∈ es, Rep (fun b => B < b ∧ s.ownBlock ≠ some b) d W e.v e.l e.f
theorem GrowsF.move {d B : Nat} {W W' : World} {s : Value} {es : List Fl} (h : GrowsF d W B s es) (hm : ∀ b, B < b → b < W.heap.size → W'.heap[b]? = W.heap[b]?) : GrowsF d W' B s es :=
  ⟨ownsRow_move (fun b hb hl => ⟨(h.own.lt b hb).1, hm b (by have := (h.own.lt b hb).1; omega) hl⟩) h.own, h.nice, fun e he => (h.rep e he).move fun b hb hl => ⟨hb, hm b hb.1 hl⟩⟩
theorem GrowsF.step {d B : Nat} {W3 : World} {sl v' : Value} {es : List Fl} {nm : ByteArray} {x : V} {l f : Value} {W2 : World} (h : GrowsF d W2 B sl es) (hx : Nice d x) (hrep : Rep (fun b => B < b ∧ sl.ownBlock ≠ some b) d W2 x l f)
    (hown : W3.ownsRow (B + 1) 72 6 v' (es.length + 1) (encFs es ++ [.string nm, .int .i64 x.kind, .int .i64 x.num, .string x.text, l, f])) (hg : W2.grownBy W3 sl.ownBlock) (hv : sl.ownBlock = v'.ownBlock ∨ v'.ownBlock = some W2.heap.size) : GrowsF d W3 B v' (es ++ [⟨nm, x, l, f⟩]) := by
  have hm : ∀ b, (B < b ∧ sl.ownBlock ≠ some b) → b < W2.heap.size → (B < b ∧ v'.ownBlock ≠ some b) ∧ W3.heap[b]? = W2.heap[b]? := by
    intro b h1 h2
    refine ⟨⟨h1.1, ?_⟩, hg.block b h2 (fun e => h1.2 e.symm)⟩
    rcases hv with e | e
    · rw [← e]; exact h1.2
    · rw [e]
      intro e2
      have := Option.some.inj e2
      omega
  refine ⟨?_, ?_, ?_⟩
  · rw [encFs_append, List.length_append]; exact hown
  · intro e he
    rcases List.mem_append.1 he with he | he
    · exact h.nice e he
    · rw [List.mem_singleton.1 he]; exact hx
  · intro e he
    rcases List.mem_append.1 he with he | he
    · exact (h.rep e he).move hm
    · rw [List.mem_singleton.1 he]; exact hrep.move hm

set_option maxRecDepth 100000 in
set_option maxHeartbeats 4000000 in
theorem Made_obj (d : Nat) (D : Int) (hD : 1 < D) (hD2 : D ≤ 1000) (ih : MakesAt d (D - 1)) (u : UInt8) (bs : List UInt8) (a : Option Addr) (cap : Nat) (w : World) (hb : BytesAt w (.slice a (u :: bs).length cap) (u :: bs)) (hT : Tabs w) (hr : (u.toNat : Int) % 6 = 5) : Calls Tryz.prog 37 #[.slice a (u :: bs).length cap, .int .i64 D] w
    fun e w' => ∃ x l f r, e = .returned (.tuple #[.agg #[.int .i64 x.kind, .int .i64 x.num, .string x.text, l, f], r]) ∧ (MadeV (d + 1) w w' (.slice a (u :: bs).length cap) (u :: bs) x l f r ∧ x.kind = 5) := by
  obtain ⟨b, o, rfl, c0, h1, h2, ht⟩ := hb.tail
  obtain ⟨A, hA⟩ : ∃ A : Option Addr, (if cap = 1 then some (⟨b, o, none⟩ : Addr) else some ⟨b, o + 1, none⟩) = A := ⟨_, rfl⟩
  have hlt := lt_of_cell c0
  have hu : u.toNat < 256 := u.toNat_lt
  obtain ⟨c, hc⟩ : ∃ c : Int, (u.toNat : Int) = c := ⟨_, rfl⟩
  rw [hc] at c0 hr
  have c1 : 0 ≤ c := by omega
  have c2 : c ≤ 255 := by omega
  have HT : Hid (Tl (.slice (some ⟨b, o, none⟩) (u :: bs).length cap) (u :: bs) (.slice A bs.length (cap - 1))) := ⟨bs, fun W hW => by obtain ⟨b', o', e, _, _, _, ht'⟩ := hW.tail; cases e; rw [hA] at ht'; exact ht'⟩
  have HB0 : Hid (BytesAt w (.slice (some ⟨b, o, none⟩) (u :: bs).length cap) (u :: bs)) := hb
  simp only [List.length_cons]
  clear ht hb hu hc
  obtain ⟨i0, hi, hz0, hz1, hz2⟩ := info_parts infoF
  go_enter Tryz.func37, Tryz.ntmps37
  go_wp2
  go_loopg [0, 13, 14, 15, 95] 4 (fun gg s0 _ _ _ i wr => ∃ (k : Nat) (fs : List Fl) (sl : Value), k ≤ 4 ∧ 4 - k ≤ gg ∧ i = .int .i64 k ∧ Aside (Tl (.slice (some ⟨b, o, none⟩) (u :: bs).length cap) (u :: bs) s0) ∧ Aside (Below w.heap.size w wr ∧ wr.heap[w.heap.size]? = some (.cells #[.int .i64 0, .int .i64 0, .string ⟨#[]⟩, .slice none 0 0, .slice none 0 0] 40 (0, 0)) ∧ wr.heap[w.heap.size + 1]? = some (.cells #[.int .i64 5, .int .i64 0, .string ⟨#[]⟩, .slice none 0 0, sl] 40 (0, 0)) ∧ GrowsF d wr (w.heap.size + 1) sl fs ∧ fs.length ≤ k ∧ Rises (fs.map Fl.pair) ∧ ∀ e ∈ fs, ∃ j, j < k ∧ e.name = nameAt j))
  case atStart =>
    refine ⟨0, [], .slice none 0 0, Nat.zero_le _, by omega, rfl, HT.out, ((Below.refl _ _).alloc (Nat.le_refl _) _).alloc (by simp) _, heap_alloc2_old, heap_alloc2_new, ⟨World.ownsRow_nil _ _ _ _, fun e he => (by cases he), fun e he => (by cases he)⟩, Nat.le_refl _, trivial, fun e he => (by cases he)⟩
  case round =>
    obtain ⟨k, fs, sl, hk, hgg, rfl, HB, R⟩ := hrel
    obtain ⟨hB, hrow0, hrow1, hG, hfk, hri, hnm⟩ := R.out
    obtain ⟨al, cl, rfl⟩ := ownsRow_slice hG.own
    obtain ⟨bs', hbs'⟩ := HB.out
    have hbs1 := hbs' wr (HB0.out.below hB)
    by_cases hlt' : k < 4
    · have zk : (k : Int) < 4 := by omega
      have hcall := ih wr _ bs' hbs1 (hT.below hB)
      have hTr := hT.below hB
      clear ih
      go_wp2_with fail
      · refine hcall.mono ?_
        rintro e w1 ⟨x, l, f, r, rfl, hnx, hrx, hrb, hb1⟩
        obtain ⟨bl, dl, bf, df, rfl, rfl⟩ := hrx.slices
        have hrow1' := row_below hb1 hrow1
        have hrow0' := row_below hb1 hrow0
        obtain ⟨k0, k1, k2, k3, k4, kf⟩ := row5 hrow1'
        have hz1' : w.heap.size + 1 < w1.heap.size := lt_of_heap hrow1'
        have hG1 : GrowsF d w1 (w.heap.size + 1) (.slice al fs.length cl) fs := hG.move fun b _ hl => hb1.block b hl
        have hB1 : Below w.heap.size w w1 := hB.trans (hb1.mono hB.size)
        have cn := (hTr.below hb1).names k hlt'
        have hln := lt_of_cell cn
        simp only at hln
        obtain ⟨O, hO⟩ : ∃ O, O = Obj.cells #[.int .i64 x.kind, .int .i64 x.num, .string x.text, .slice bl x.list.length dl, .slice bf x.fields.length df] 40 := ⟨_, rfl⟩
        obtain ⟨O6, hO6⟩ : ∃ O6, O6 = Obj.cells #[.string (nameAt k), .int .i64 x.kind, .int .i64 x.num, .string x.text, .slice bl x.list.length dl, .slice bf x.fields.length df] 72 := ⟨_, rfl⟩
        have hG2 : GrowsF d ((w1.alloc O).alloc O6).drew (w.heap.size + 1) (.slice al fs.length cl) fs := hG1.move fun b _ hl => by show ((w1.alloc O).alloc O6).heap[b]? = _; rw [Below.heap_alloc _ _ b (by simp; omega), Below.heap_alloc _ _ b hl]
        have hnews : Aside (∀ j u, [Value.string (nameAt k), .int .i64 x.kind, .int .i64 x.num, .string x.text, .slice bl x.list.length dl, .slice bf x.fields.length df][j]? = some u → ((w1.alloc O).alloc O6).drew.cell? ((⟨w1.heap.size + 1, 0, none⟩ : Addr).add j) = some u) := by
          have h : ((w1.alloc O).alloc O6).drew.heap[w1.heap.size + 1]? = some O6 := heap_alloc2_new
          rw [hO6] at h ⊢
          exact World.news_of_block h
        have hone : Aside (∀ v ∈ [Value.string (nameAt k), .int .i64 x.kind, .int .i64 x.num, .string x.text, .slice bl x.list.length dl, .slice bf x.fields.length df], v.oneCell' = true) := by
          intro v hv
          simp only [List.mem_cons, List.not_mem_nil, or_false] at hv
          rcases hv with rfl | rfl | rfl | rfl | rfl | rfl <;> rfl
        have hown := (show Aside _ from hG2.own)
        have hR3 : Aside (∀ w3, ((w1.alloc O).alloc O6).drew.grownBy w3 (Value.slice al fs.length cl).ownBlock → w3.heap[w.heap.size + 1]? = some (.cells #[.int .i64 5, .int .i64 0, .string ⟨#[]⟩, .slice none 0 0, .slice al fs.length cl] 40 (0, 0)) ∧ w3.heap[w.heap.size]? = some (.cells #[.int .i64 0, .int .i64 0, .string ⟨#[]⟩, .slice none 0 0, .slice none 0 0] 40 (0, 0))) := by
          intro w3 hgr
          have hne : ∀ b, b < w.heap.size + 1 + 1 → some b ≠ (Value.slice al fs.length cl).ownBlock := fun b hb e => by
            have := (hG2.own.lt b e.symm).1
            omega
          have hl0 := lt_of_heap hrow0'
          refine ⟨(hgr.block _ (by simp; omega) (hne _ (by omega))).trans ?_, (hgr.block _ (by simp; omega) (hne _ (by omega))).trans ?_⟩
          · show ((w1.alloc O).alloc O6).heap[_]? = _
            rw [Below.heap_alloc _ _ _ (by simp; omega), Below.heap_alloc _ _ _ (by omega)]; exact hrow1'
          · show ((w1.alloc O).alloc O6).heap[_]? = _
            rw [Below.heap_alloc _ _ _ (by simp; omega), Below.heap_alloc _ _ _ (by omega)]; exact hrow0'
        rw [hO, hO6] at hown hnews hR3
        have S := (show Aside _ from And.intro hnx (And.intro hrx (And.intro hrb (And.intro hG2 (And.intro hB1 (And.intro (lt_of_heap hrow1) (And.intro hb1 (And.intro hO (And.intro hO6 (And.intro (fun k e => (hG.own.lt k e).2) (And.intro hbs' (And.intro hfk (And.intro hri hnm)))))))))))))
        have hsb : w.heap.size + 1 + 1 ≤ w1.heap.size := hz1'
        have hfl : fs.length ≤ 4 := by omega
        have hz0' : w.heap.size < w1.heap.size := by omega
        have hz00 : 0 < w1.heap.size := by omega
        have hz01 : 1 < w1.heap.size + 1 := by omega
        clear hcall hnx hrx hrb hrow0' hrow1' hG1 hG2 hB1 hb1 hB hrow0 hrow1 hG R HB hO hO6 hbs' hbs1 hTr hri hnm hfk
        go_wp2_with fail
        go_region_law (refine step_append_lies _ rfl (.tmp 111) (.tmp 117) 38 rfl (w.heap.size + 1 + 1) 72 i0 _ 6 96 Tryz.underlying38 hi hz0 hz1 hz2 rfl (by decide) _ fs.length (encFs fs) (by simp [Act.eval]) hown.out ⟨w1.heap.size + 1, 0, none⟩ 1 1 [.string (nameAt k), .int .i64 x.kind, .int .i64 x.num, .string x.text, .slice bl x.list.length dl, .slice bf x.fields.length df] (by simp [Act.eval]) rfl hnews.out hone.out (by omega) (by unfold maxLen; omega) (by omega) (by simp; omega) _ rfl ?_; intro g cap' w3 hown3 hgrow3 hlie hlt3; have r3 := (hR3.out w3 hgrow3).1; obtain ⟨m0, m1, m2, m3, m4, mf⟩ := row5 r3; have zz3 : w.heap.size + 1 < w3.heap.size := lt_of_heap r3; have Y := (show Aside _ from And.intro hown3 (And.intro hgrow3 (And.intro hlie r3))); clear hown3 hgrow3 hlie r3)
        all_goals
          go_wp2
          go_roundg (4 - (k + 1))
          case measure => omega
          case rel =>
            obtain ⟨hnx, hrx, hrb, hG2, hB1, hl1, hb1, hO, hO6, hlw, hbs', hfk, hri, hnm⟩ := S.out
            obtain ⟨hown3, hgrow3, hlie, r3⟩ := Y.out
            rw [← hO, ← hO6] at hgrow3 hR3
            have q3 := (hR3.out w3 hgrow3).2
            have hB3 : Below w.heap.size w w3 := ((((hB1.alloc (by omega) O).alloc (by simp; omega) O6).drew).grown hgrow3 (by simp; omega) (fun k e => by have := (hG2.own.lt k e).1; omega))
            have hrx2 : Rep (fun b => w.heap.size + 1 < b ∧ (Value.slice al fs.length cl).ownBlock ≠ some b) d ((w1.alloc O).alloc O6).drew x (.slice bl x.list.length dl) (.slice bf x.fields.length df) := hrx.move fun b hb hl => by
              refine ⟨⟨by omega, fun e => ?_⟩, by show ((w1.alloc O).alloc O6).heap[b]? = _; rw [Below.heap_alloc _ _ b (by simp; omega), Below.heap_alloc _ _ b hl]⟩
              have := hlw b e
              omega
            have hG3 : GrowsF d w3 (w.heap.size + 1) (.slice (some ⟨g, 0, none⟩) (fs.length + 1) cap') (fs ++ [⟨nameAt k, x, .slice bl x.list.length dl, .slice bf x.fields.length df⟩]) := by
              refine hG2.step hnx hrx2 hown3 hgrow3 ?_
              rcases hlie with e | e
              · exact .inl e
              · right; show some g = _; rw [e]; simp
            refine ⟨k + 1, fs ++ [⟨nameAt k, x, .slice bl x.list.length dl, .slice bf x.fields.length df⟩], .slice (some ⟨g, 0, none⟩) (fs.length + 1) cap', by omega, by omega, by go_num, ?_, hB3.setCell (by simp) _, ?_, ?_, hG3.move fun b hb _ => heap_setCell_ne _ _ _ (by simp; omega), by simp; omega, ?_, ?_⟩
            · obtain ⟨bs2, h2⟩ := hrb
              exact ⟨bs2, fun W hW => h2 W (hbs' W hW)⟩
            · rw [heap_setCell_ne _ _ _ (by simp)]; exact q3
            · exact setCell_row r3 (i := 4) _
            · rw [List.map_append]
              refine rises_snoc hri fun p hp => ?_
              obtain ⟨e, he, rfl⟩ := List.mem_map.1 hp
              obtain ⟨j, hj, hje⟩ := hnm e he
              show cmpT e.name (nameAt k) < 0
              rw [hje]
              exact nameAt_less hj hlt'
            · intro e he
              rcases List.mem_append.1 he with he | he
              · obtain ⟨j, hj, hje⟩ := hnm e he
                exact ⟨j, by omega, hje⟩
              · rw [List.mem_singleton.1 he]
                exact ⟨k, by omega, rfl⟩
      · go_roundg (4 - (k + 1))
        case measure => omega
        case rel =>
          obtain ⟨hB, hrow0, hrow1, hG, hfk, hri, hnm⟩ := R.out
          exact ⟨k + 1, fs, _, by omega, by omega, by go_num, HB.out, hB, hrow0, hrow1, hG, by omega, hri, fun e he => (hnm e he).imp fun j hj => ⟨by omega, hj.2⟩⟩
    · have zk : ¬ (k : Int) < 4 := by omega
      obtain ⟨k0, k1, k2, k3, k4, kf⟩ := row5 hrow1
      obtain ⟨j0, j1, j2, j3, j4, jf⟩ := row5 hrow0
      have hz1' : w.heap.size + 1 < wr.heap.size := lt_of_heap hrow1
      have S := (show Aside _ from And.intro hB (And.intro hG (And.intro hfk (And.intro hri hnm))))
      clear ih hB hrow0 hrow1 hG R hbs' hbs1 hri hnm hfk
      go_wp2
      refine bodyPost_ret (v := .tuple #[.agg #[.int .i64 5, .int .i64 0, .string ⟨#[]⟩, .slice none 0 0, .slice al fs.length cl], _]) (by simp [results, Tryz.results37, go_sem, j0, j1, j2, j3, j4]) rfl ⟨⟨5, 0, ⟨#[]⟩, [], fs.map Fl.pair⟩, _, _, _, rfl, ⟨?_, ?_, HB.out, ?_⟩, rfl⟩
      · obtain ⟨hB, hG, hfk, hri, hnm⟩ := S.out
        refine ⟨show (0 : Int) ≤ 5 by decide, show (5 : Int) ≤ 5 by decide, ⟨show (-9223372036854775808 : Int) ≤ 0 by decide, show (0 : Int) ≤ 9223372036854775807 by decide⟩, show Wd 5 0 ⟨#[]⟩ from Wd.no _ _ (by decide), by simp, by simp; omega, hri, fun y hy => (by cases hy), fun p hp => ?_⟩
        obtain ⟨e, he, rfl⟩ := List.mem_map.1 hp
        obtain ⟨j, _, hje⟩ := hnm e he
        refine ⟨?_, hG.nice e he⟩
        exact ⟨j, hje⟩
      · obtain ⟨hB, hG, hfk, hri, hnm⟩ := S.out
        have hne : ∀ b, w.heap.size < b → (set5W wr w.heap.size 0 1 2 3 4 (.int .i64 5) (.int .i64 0) (.string ⟨#[]⟩) (.slice none 0 0) (.slice al fs.length cl)).heap[b]? = wr.heap[b]? := fun b hb => set5W_ne _ _ _ _ _ _ _ _ _ _ _ _ (by omega)
        have hG' := hG.move (W' := set5W wr w.heap.size 0 1 2 3 4 (.int .i64 5) (.int .i64 0) (.string ⟨#[]⟩) (.slice none 0 0) (.slice al fs.length cl)) fun b hb _ => hne b (by omega)
        exact ⟨⟨[], rfl, RowAt.nil, fun e he => (by cases he)⟩, ⟨fs, rfl, ⟨ownsRow_move (fun b _ _ => ⟨Nat.zero_le _, rfl⟩) hG'.own, by omega, fun b hb => by have := (hG'.own.lt b hb).1; show w.heap.size ≤ b; omega⟩, fun e he => (hG'.rep e he).move fun b hb _ => ⟨by omega, rfl⟩⟩⟩
      · exact set5W_below S.out.1 (Nat.le_refl _) 0 1 2 3 4 _ _ _ _ _
end Go.Proofs.YtfpkkobclkdniaaGreatDoor

namespace Go.Proofs.YtfpkkobclkdniaaGreatDoor
open Go.RowKit

/-- all that was there is as it was, but for one block. -/
structure KeptB (b : Nat) (w w' : World) : Prop where
  os : w'.os = w.os
  tape : w'.tape = w.tape
  output : w'.output = w.output
  size : w.heap.size ≤ w'.heap.size
  block : ∀ k, k < w.heap.size → k ≠ b → w'.heap[k]? = w.heap[k]?
theorem KeptB.refl (b : Nat) (w : World) : KeptB b w w := ⟨rfl, rfl, rfl, Nat.le_refl _, fun _ _ _ => rfl⟩
theorem KeptB.trans {b : Nat} {x y z : World} (h : KeptB b x y) (k : KeptB b y z) : KeptB b x z :=
  ⟨k.os.trans h.os, k.tape.trans h.tape, k.output.trans h.output, Nat.le_trans h.size k.size, fun i hi hb => (k.block i (Nat.lt_of_lt_of_le hi h.size) hb).trans (h.block i hi hb)⟩
theorem KeptB.of_below {b : Nat} {w w' : World} (h : Below w.heap.size w w') : KeptB b w w' := ⟨h.os, h.tape, h.output, h.size, fun k hk _ => h.block k hk⟩
theorem KeptB.below {b B : Nat} {w w' : World} (h : KeptB b w w') (hB : B ≤ b) (hw : B ≤ w.heap.size) : Below B w w' := ⟨h.os, h.tape, h.output, h.size, fun k hk => h.block k (by omega) (by omega)⟩
theorem KeptB.set {b o : Nat} {v : Value} (w : World) : KeptB b w (w.setCell ⟨b, o, none⟩ v) :=
  ⟨rfl, rfl, rfl, by simp [World.setCell], fun k _ hk => Below.heap_setCell _ _ _ _ hk⟩
theorem ba_nil {s : ByteArray} (h : s.data.toList = []) : s = ⟨#[]⟩ := by
  cases s with
  | mk d =>
    simp at h
    rw [h]
theorem ba_size (s : ByteArray) : s.size = s.data.toList.length := by simp
theorem ba_tail {s : ByteArray} {c : UInt8} {r : List UInt8} (h : s.data.toList = c :: r) : (s.extract 1 s.size).data.toList = r := by
  have hs := ba_size s
  rw [h, List.length_cons] at hs
  have e : (s.extract 1 s.size).data.toList = List.take (s.size - 1) r := by simp [h]
  rw [e]
  exact List.take_of_length_le (by omega)
theorem cellK {w : World} {b : Nat} {cs : Array Value} {t : TypeId} {x : Value} {k : Nat} (h : w.heap[b]? = some (.cells cs t (0, 0))) (hk : cs[k]? = some x) : w.cell? ⟨b, k, none⟩ = some x := by
  simp only [World.cell?, h]
  exact hk

/-- a number of bytes, the highest first. -/
def numL (l : List UInt8) : Nat := l.foldl (fun a c => a * 256 + c.toNat) 0
theorem numL_snoc (l : List UInt8) (c : UInt8) : numL (l ++ [c]) = numL l * 256 + c.toNat := by simp [numL]
theorem or_byte (U C : Int) (h0 : 0 ≤ U) (h1 : U < 72057594037927936) (c0 : 0 ≤ C) (c1 : C < 256) : bits .or .u64 (IntKind.u64.wrap (U * 256)) (IntKind.u64.wrap C) = U * 256 + C := by
  obtain ⟨u, rfl⟩ := Int.eq_ofNat_of_zero_le h0
  obtain ⟨c, rfl⟩ := Int.eq_ofNat_of_zero_le c0
  have e1 : IntKind.u64.wrap ((u : Int) * 256) = ((u * 256 : Nat) : Int) := by rw [IntKind.wrap_u64]; omega
  have e2 : IntKind.u64.wrap (c : Int) = (c : Int) := by rw [IntKind.wrap_u64]; omega
  rw [e1, e2]
  have k1 : (BitVec.ofInt 64 ((u * 256 : Nat) : Int)).toNat = u * 256 := by
    rw [BitVec.ofInt_natCast, BitVec.toNat_ofNat]; exact Nat.mod_eq_of_lt (by omega)
  have k2 : (BitVec.ofInt 64 (c : Int)).toNat = c := by
    rw [BitVec.ofInt_natCast, BitVec.toNat_ofNat]; exact Nat.mod_eq_of_lt (by omega)
  show IntKind.u64.wrap ((BitVec.ofInt 64 ((u * 256 : Nat) : Int) ||| BitVec.ofInt 64 (c : Int)).toNat : Int) = _
  have e3 := Nat.two_pow_add_eq_or_of_lt (i := 8) (b := c) (by omega) u
  rw [show (2 : Nat) ^ 8 = 256 from rfl] at e3
  rw [BitVec.toNat_or, k1, k2, Nat.mul_comm u 256, ← e3, IntKind.wrap_u64]
  omega

/-- a text that is written, read. -/
def ktextP : List UInt8 → Option (List UInt8 × List UInt8)
  | [] => none
  | c :: r =>
    if c = 0 then
      match r with
      | [] => none
      | d :: r' => if d = 1 then some ([], r') else if d = 255 then (ktextP r').map (fun p => (0 :: p.1, p.2)) else none
    else (ktextP r).map (fun p => (c :: p.1, p.2))
theorem ktextP_nil : ktextP [] = none := by unfold ktextP; rfl
theorem ktextP_zero_nil : ktextP [0] = none := by simp [ktextP]
theorem ktextP_shut (r : List UInt8) : ktextP (0 :: 1 :: r) = some ([], r) := by simp [ktextP]
theorem ktextP_stays (r : List UInt8) : ktextP (0 :: 255 :: r) = (ktextP r).map (fun p => (0 :: p.1, p.2)) := by simp [ktextP]
theorem ktextP_bad (d : UInt8) (r : List UInt8) (h1 : ¬ d = 1) (h2 : ¬ d = 255) : ktextP (0 :: d :: r) = none := by simp [ktextP, h1, h2]
theorem ktextP_more (c : UInt8) (r : List UInt8) (h : ¬ c = 0) : ktextP (c :: r) = (ktextP r).map (fun p => (c :: p.1, p.2)) := by rw [ktextP.eq_def]; simp only [if_neg h]
/-- what is read already stands ahead. -/
def ahead (pre : List UInt8) (o : Option (List UInt8 × List UInt8)) : Option (List UInt8 × List UInt8) := o.map (fun p => (pre ++ p.1, p.2))
theorem ahead_more (pre : List UInt8) (c : UInt8) (o : Option (List UInt8 × List UInt8)) : ahead pre (o.map (fun p => (c :: p.1, p.2))) = ahead (pre ++ [c]) o := by
  cases o <;> simp [ahead]

/-- things one behind the other, up to a byte 0. -/
def rowK {α : Type} (f : List UInt8 → Option (α × List UInt8)) : Nat → List UInt8 → Option (List α × List UInt8)
  | 0, _ => none
  | m + 1, l => if l.head? = some 0 then some ([], l.tail) else
    match f l with
    | none => none
    | some p => (rowK f m p.2).map (fun q => (p.1 :: q.1, q.2))
def fieldK (f : List UInt8 → Option (V × List UInt8)) (l : List UInt8) : Option ((ByteArray × V) × List UInt8) :=
  if l.head? = some 1 then
    match ktextP l.tail with
    | none => none
    | some p => (f p.2).map (fun q => ((⟨p.1.toArray⟩, q.1), q.2))
  else none
/-- a value, by what its first byte tells. -/
def kindK (f : List UInt8 → Option (V × List UInt8)) (k : Int) (r : List UInt8) : Option (V × List UInt8) :=
  if k = 1 then (if r.length < 1 then none else some (⟨1, wrap64 (numL (r.take 1) : Int), ⟨#[]⟩, [], []⟩, r.drop 1))
  else if k = 2 then (if r.length < 8 then none else some (⟨2, tw (wrap64 (numL (r.take 8) : Int)), ⟨#[]⟩, [], []⟩, r.drop 8))
  else if k = 3 then (ktextP r).map (fun p => (⟨3, 0, ⟨p.1.toArray⟩, [], []⟩, p.2))
  else if k = 4 then (rowK f (r.length + 1) r).map (fun p => (⟨4, 0, ⟨#[]⟩, p.1, []⟩, p.2))
  else if k = 5 then (rowK (fieldK f) (r.length + 1) r).map (fun p => (⟨5, 0, ⟨#[]⟩, [], p.1⟩, p.2))
  else some (⟨k, 0, ⟨#[]⟩, [], []⟩, r)
def valueK : Nat → List UInt8 → Option (V × List UInt8)
  | 0, _ => none
  | _ + 1, [] => none
  | n + 1, c :: r => kindK (valueK n) ((c.toNat : Int) - 1) r

/-- what is read is shorter. -/
def Less {α : Type} (f : List UInt8 → Option (α × List UInt8)) : Prop := ∀ l p, f l = some p → p.2.length < l.length
theorem text_less : ∀ (m : Nat) (l : List UInt8), l.length ≤ m → ∀ p, ktextP l = some p → p.2.length < l.length
  | _, [], _, p, h => by rw [ktextP_nil] at h; cases h
  | 0, _ :: _, hm, _, _ => by simp at hm
  | m + 1, c :: r, hm, p, h => by
    simp only [List.length_cons] at hm ⊢
    by_cases h0 : c = 0
    · subst h0
      rcases r with _ | ⟨d, r⟩
      · rw [ktextP_zero_nil] at h; cases h
      · simp only [List.length_cons] at hm ⊢
        by_cases h1 : d = 1
        · subst h1
          rw [ktextP_shut] at h
          cases h
          simp
          omega
        · by_cases h2 : d = 255
          · subst h2
            rw [ktextP_stays] at h
            obtain ⟨q, hq, rfl⟩ := Option.map_eq_some_iff.1 h
            have := text_less m r (by omega) q hq
            simp only
            omega
          · rw [ktextP_bad d r h1 h2] at h; cases h
    · rw [ktextP_more c r h0] at h
      obtain ⟨q, hq, rfl⟩ := Option.map_eq_some_iff.1 h
      have := text_less m r (by omega) q hq
      simp only
      omega
theorem rowK_less {α : Type} {f : List UInt8 → Option (α × List UInt8)} (hf : Less f) : ∀ (m : Nat) (l : List UInt8) (p : List α × List UInt8), rowK f m l = some p → p.2.length < l.length
  | 0, _, _, h => by simp [rowK] at h
  | m + 1, l, p, h => by
    unfold rowK at h
    split at h
    · rename_i h0
      cases h
      cases l with
      | nil => simp at h0
      | cons c r => simp
    · split at h
      · cases h
      · rename_i q hq
        obtain ⟨q', hq', rfl⟩ := Option.map_eq_some_iff.1 h
        have h1 := hf l q hq
        have h2 := rowK_less hf m q.2 q' hq'
        simp only
        omega
theorem fieldK_less {f : List UInt8 → Option (V × List UInt8)} (hf : Less f) : Less (fieldK f) := by
  intro l p h
  unfold fieldK at h
  split at h
  · rename_i h0
    split at h
    · cases h
    · rename_i q hq
      obtain ⟨q', hq', rfl⟩ := Option.map_eq_some_iff.1 h
      have h1 := text_less _ _ (Nat.le_refl _) q hq
      have h2 := hf _ q' hq'
      rw [List.length_tail] at h1
      simp only
      omega
  · cases h
theorem valueK_less : ∀ n, Less (valueK n)
  | 0 => fun l p h => by simp [valueK] at h
  | n + 1 => by
    intro l p h
    cases l with
    | nil => simp [valueK] at h
    | cons c r =>
      have ih := valueK_less n
      simp only [valueK, kindK] at h
      rw [List.length_cons]
      split at h
      · split at h
        · cases h
        · cases h; simp; omega
      · split at h
        · split at h
          · cases h
          · cases h; simp; omega
        · split at h
          · obtain ⟨q, hq, rfl⟩ := Option.map_eq_some_iff.1 h
            have := text_less _ _ (Nat.le_refl _) q hq
            simp only; omega
          · split at h
            · obtain ⟨q, hq, rfl⟩ := Option.map_eq_some_iff.1 h
              have := rowK_less ih _ _ q hq
              simp only; omega
            · split at h
              · obtain ⟨q, hq, rfl⟩ := Option.map_eq_some_iff.1 h
                have := rowK_less (fieldK_less ih) _ _ q hq
                simp only; omega
              · cases h; simp

def aheadR {α : Type} (pre : List α) (o : Option (List α × List UInt8)) : Option (List α × List UInt8) := o.map (fun p => (pre ++ p.1, p.2))
theorem aheadR_more {α : Type} (pre : List α) (x : α) (o : Option (List α × List UInt8)) : aheadR pre (o.map (fun q => (x :: q.1, q.2))) = aheadR (pre ++ [x]) o := by
  cases o <;> simp [aheadR]
theorem KeptB.setc {b c o : Nat} {v : Value} {w w1 : World} (h : KeptB b w w1) (hc : w.heap.size ≤ c) : KeptB b w (w1.setCell ⟨c, o, none⟩ v) :=
  ⟨h.os, h.tape, h.output, by simpa [World.setCell] using h.size, fun k hk hb => (Below.heap_setCell _ _ _ _ (by simp; omega)).trans (h.block k hk hb)⟩
theorem Rep.setc {ok : Nat → Prop} {n : Nat} {w1 : World} {x : V} {l f : Value} (h : Rep ok n w1 x l f) {c o : Nat} {v : Value} (hc : ¬ ok c) : Rep ok n (w1.setCell ⟨c, o, none⟩ v) x l f :=
  h.move fun k hk _ => ⟨hk, Below.heap_setCell _ _ _ _ (fun e => hc (by have e' : k = c := e; rw [← e']; exact hk))⟩
theorem KeptB.al {b : Nat} {w w1 : World} {o : Obj} (h : KeptB b w w1) : KeptB b w (w1.alloc o) := h.trans (KeptB.of_below ((Below.refl _ _).alloc (Nat.le_refl _) _))
theorem Rep.al {ok : Nat → Prop} {n : Nat} {w1 : World} {x : V} {l f : Value} {o : Obj} (h : Rep ok n w1 x l f) : Rep ok n (w1.alloc o) x l f := h.below ((Below.refl _ _).alloc (Nat.le_refl _) _)
theorem KeptB.mem {b : Nat} {w w' : World} (h : KeptB b w w') {c : Nat} {o : Obj} (hc : w.heap[c]? = some o) (hb : c ≠ b) : w'.heap[c]? = some o := (h.block c (lt_of_heap hc) hb).trans hc
theorem rep_bare {ok : Nat → Prop} {W : World} (k m : Int) (t : ByteArray) : ∀ n, Rep ok n W ⟨k, m, t, [], []⟩ (.slice none 0 0) (.slice none 0 0)
  | 0 => ⟨rfl, rfl, rfl, rfl⟩
  | _ + 1 => ⟨⟨[], rfl, RowAt.nil, fun e he => (by cases he)⟩, ⟨[], rfl, RowAt.nil, fun e he => (by cases he)⟩⟩
/-- where a value stands when all of it is read, or it is none. -/
structure VeK (w : World) (b : Nat) (k : Int) (w2 : World) (B : Nat) : Prop where
  kept : KeptB b w w2
  row : w2.heap[w.heap.size]? = some (.cells #[.int .i64 0, .int .i64 0, .string ⟨#[]⟩, .slice none 0 0, .slice none 0 0] 40 (0, 0))
  own : w2.heap[B]? = some (.cells #[.int .i64 k, .int .i64 0, .string ⟨#[]⟩, .slice none 0 0, .slice none 0 0] 40 (0, 0))
end Go.Proofs.YtfpkkobclkdniaaGreatDoor

namespace Go.Proofs
open Go.Shelf
def Tryz.laysValid_ren : Go.Shelf.Ren := ⟨fun | 196 => 49 | 259 => 72 | n => n, fun | 0 => 0 | 3 => 3 | 4 => 4 | 5 => 5 | 9 => 9 | 12 => 12 | 46 => 131 | 53 => 101 | 119 => 137 | 138 => 139 | 139 => 140 | n => n, fun | 3 => 3 | 4 => 4 | n => n⟩
theorem Tryz.laysValid : Go.Proofs.Lays.n196 Tryz.prog Tryz.laysValid_ren := {
  mixed := by kernel_rfl
  f196 := Tryz.func49.trans (congrArg some (by kernel_rfl))
  f259 := Tryz.func72.trans (congrArg some (by kernel_rfl))
  t0 := Tryz.underlying0
  a0 := Tryz.isAgg0
  z0 := Tryz.sizeOf0
  v0 := Tryz.zeroValue0
  t3 := Tryz.underlying3
  a3 := Tryz.isAgg3
  z3 := Tryz.sizeOf3
  v3 := Tryz.zeroValue3
  t4 := Tryz.underlying4
  a4 := Tryz.isAgg4
  z4 := Tryz.sizeOf4
  v4 := Tryz.zeroValue4
  t5 := Tryz.underlying5
  a5 := Tryz.isAgg5
  z5 := Tryz.sizeOf5
  v5 := Tryz.zeroValue5
  t9 := Tryz.underlying9
  a9 := Tryz.isAgg9
  z9 := Tryz.sizeOf9
  v9 := Tryz.zeroValue9
  t12 := Tryz.underlying12
  a12 := Tryz.isAgg12
  z12 := Tryz.sizeOf12
  v12 := Tryz.zeroValue12
  t46 := Tryz.underlying131
  a46 := Tryz.isAgg131
  z46 := Tryz.sizeOf131
  v46 := Tryz.zeroValue131
  t53 := Tryz.underlying101
  a53 := Tryz.isAgg101
  z53 := Tryz.sizeOf101
  v53 := Tryz.zeroValue101
  t119 := Tryz.underlying137
  a119 := Tryz.isAgg137
  z119 := Tryz.sizeOf137
  t138 := Tryz.underlying139
  a138 := Tryz.isAgg139
  z138 := Tryz.sizeOf139
  v138 := Tryz.zeroValue139
  t139 := Tryz.underlying140
  a139 := Tryz.isAgg140
  z139 := Tryz.sizeOf140
  v139 := Tryz.zeroValue140
  g3 := by kernel_rfl
  g4 := by kernel_rfl }
end Go.Proofs
namespace Go.Proofs.YtfpkkobclkdniaaGreatDoor
open Go.RowKit

def U8 (w : World) : Prop := Lib.Utf8Tabs 3 4 w

theorem ValidString_any (s : ByteArray) (w : World) (hs : s.size ≤ 9223372036854775807) (hT : U8 w) :
    Calls Tryz.prog 49 #[.string s] w fun e w' => e = .returned (.bool (Lib.validD s.data.toList)) ∧ Below w.heap.size w w' := Any.utf8_ValidString Tryz.laysValid s w hs hT
theorem textValid_any (s : ByteArray) (w : World) (hs : s.size ≤ 9223372036854775807) (hT : U8 w) :
    Calls Tryz.prog 30 #[.string s] w fun e w' => e = .returned (.bool (Lib.validD s.data.toList)) ∧ Below w.heap.size w w' := by
  have h := ValidString_any s w hs hT
  generalize Lib.validD s.data.toList = v at *
  clear hs
  go_enter Tryz.func30, Tryz.ntmps30
  go_wp2_with fail
  refine h.mono ?_
  rintro e w1 ⟨rfl, hb⟩
  go_wp2
  go_ret
  exact ⟨rfl, hb⟩

end Go.Proofs.YtfpkkobclkdniaaGreatDoor

namespace Go.Proofs.YtfpkkobclkdniaaGreatDoor
open Go.RowKit

def maxI : Int → List Int → Int
  | m, [] => m
  | m, x :: xs => maxI (max m x) xs
/-- how deep a value is, so deep. -/
def depthV : Nat → V → Int
  | 0, _ => 1
  | n + 1, v => 1 + (if v.kind = 4 then maxI 0 (v.list.map (depthV n)) else if v.kind = 5 then maxI 0 (v.fields.map fun p => depthV n p.2) else 0)
theorem maxI_bound (b : Int) : ∀ (l : List Int) (m : Int), m ≤ b → (∀ x ∈ l, x ≤ b) → m ≤ maxI m l ∧ maxI m l ≤ b
  | [], m, h, _ => ⟨Int.le_refl _, h⟩
  | x :: xs, m, h, hx => by
    have hx0 := hx x (by simp)
    have := maxI_bound b xs (max m x) (by omega) fun y hy => hx y (by simp [hy])
    simp only [maxI]
    exact ⟨by omega, this.2⟩
theorem depthV_bound : ∀ (n : Nat) (v : V), 1 ≤ depthV n v ∧ depthV n v ≤ n + 1
  | 0, _ => by simp [depthV]
  | n + 1, v => by
    simp only [depthV]
    split
    · have := maxI_bound ((n : Int) + 1) (v.list.map (depthV n)) 0 (by omega) (fun x hx => by obtain ⟨y, _, rfl⟩ := List.mem_map.1 hx; exact (depthV_bound n y).2)
      omega
    · split
      · have := maxI_bound ((n : Int) + 1) (v.fields.map fun p => depthV n p.2) 0 (by omega) (fun x hx => by obtain ⟨y, _, rfl⟩ := List.mem_map.1 hx; exact (depthV_bound n y.2).2)
        omega
      · omega
theorem maxI_snoc : ∀ (l : List Int) (m x : Int), maxI m (l ++ [x]) = max (maxI m l) x
  | [], _, _ => rfl
  | y :: l, m, x => by simp only [List.cons_append, maxI]; exact maxI_snoc l _ x

end Go.Proofs.YtfpkkobclkdniaaGreatDoor

namespace Go.Proofs.YtfpkkobclkdniaaGreatDoor
open Go.RowKit

/-- how many names stand ahead of one. -/
def aheadN (name : ByteArray) : List (ByteArray × V) → Nat
  | [] => 0
  | f :: fs => if cmpT f.1 name < 0 then aheadN name fs + 1 else 0

end Go.Proofs.YtfpkkobclkdniaaGreatDoor

namespace Go.Proofs.YtfpkkobclkdniaaGreatDoor

theorem aheadN_le (name : ByteArray) : ∀ ps : List (ByteArray × V), aheadN name ps ≤ ps.length
  | [] => Nat.le_refl _
  | f :: fs => by
    have := aheadN_le name fs
    simp only [aheadN, List.length_cons]
    split <;> omega
theorem aheadN_lt (name : ByteArray) : ∀ (ps : List (ByteArray × V)) (j : Nat) (x : ByteArray × V), j < aheadN name ps → ps[j]? = some x → cmpT x.1 name < 0
  | [], _, _, h, _ => by simp [aheadN] at h
  | f :: fs, 0, x, h, hx => by
    simp only [aheadN] at h
    split at h
    · rename_i h0
      simp at hx; subst hx; exact h0
    · omega
  | f :: fs, j + 1, x, h, hx => by
    simp only [aheadN] at h
    split at h
    · exact aheadN_lt name fs j x (by omega) (by simpa using hx)
    · omega
theorem Rises.all {f : ByteArray × V} : ∀ {fs : List (ByteArray × V)}, Rises (f :: fs) → ∀ x ∈ fs, cmpT f.1 x.1 < 0
  | [], _, x, hx => by cases hx
  | g :: fs, h, x, hx => by
    rcases List.mem_cons.1 hx with rfl | hx
    · exact h.1
    · exact good_cmpT.lt_left h.1 (by have := Rises.all (f := g) h.2 x hx; omega)
theorem aheadN_ge (name : ByteArray) : ∀ (ps : List (ByteArray × V)), Rises ps → ∀ (j : Nat) (x : ByteArray × V), aheadN name ps ≤ j → ps[j]? = some x → 0 ≤ cmpT x.1 name
  | [], _, _, _, _, hx => by simp at hx
  | f :: fs, hr, j, x, h, hx => by
    simp only [aheadN] at h
    split at h
    · cases j with
      | zero => omega
      | succ j => exact aheadN_ge name fs hr.tail j x (by omega) (by simpa using hx)
    · rename_i h0
      cases j with
      | zero => simp at hx; subst hx; omega
      | succ j =>
        have hm : x ∈ fs := List.mem_of_getElem? (by simpa using hx)
        have h1 := hr.all x hm
        have a1 := good_cmpT.anti f.1 name
        have a2 := good_cmpT.anti name x.1
        have h2 : cmpT name x.1 < 0 := good_cmpT.lt_right (by omega) h1
        omega
theorem aheadN_there (name : ByteArray) : ∀ (ps : List (ByteArray × V)), Rises ps → (∀ x, ps[aheadN name ps]? = some x → (cmpT x.1 name == 0) = (getF name ps).isSome) ∧ (aheadN name ps = ps.length → (getF name ps).isSome = false)
  | [], _ => ⟨fun x hx => by simp at hx, fun _ => rfl⟩
  | f :: fs, hr => by
    have ih := aheadN_there name fs hr.tail
    by_cases h0 : cmpT f.1 name < 0
    · simp only [aheadN, if_pos h0]
      rw [getF_cons, if_neg (by omega)]
      refine ⟨fun x hx => ih.1 x (by simpa using hx), fun h => ih.2 (by simpa using h)⟩
    · simp only [aheadN, if_neg h0]
      refine ⟨fun x hx => ?_, fun h => by simp at h⟩
      simp at hx
      subst hx
      by_cases h1 : cmpT f.1 name = 0
      · rw [getF_cons, if_pos h1, h1]; rfl
      · rw [get_above hr (by omega)]
        simp [h1]
theorem set_ahead (name : ByteArray) (x : V) : ∀ (ps : List (ByteArray × V)), getF name ps = none → setF name x ps = ps.take (aheadN name ps) ++ (name, x) :: ps.drop (aheadN name ps)
  | [], _ => rfl
  | f :: fs, h => by
    rw [getF_cons] at h
    by_cases h0 : cmpT f.1 name = 0
    · rw [if_pos h0] at h; cases h
    · rw [if_neg h0] at h
      by_cases h1 : cmpT f.1 name < 0
      · simp only [setF, if_neg h0, if_neg (show ¬ 0 < cmpT f.1 name by omega), aheadN, if_pos h1, List.take_succ_cons, List.drop_succ_cons, List.cons_append]
        rw [set_ahead name x fs h]
      · simp only [setF, if_neg h0, if_pos (show 0 < cmpT f.1 name by omega), aheadN, if_neg h1, List.take_zero, List.drop_zero, List.nil_append]

end Go.Proofs.YtfpkkobclkdniaaGreatDoor
