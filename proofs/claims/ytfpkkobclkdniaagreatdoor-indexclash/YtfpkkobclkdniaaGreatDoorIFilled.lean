/-
  The law's filled by its contract: a heap and a map of records, one after another. Conditions: as stated.
-/
import Derived.Test.YtfpkkobclkdniaaGreatDoorU8
import Derived.Test.YtfpkkobclkdniaaGreatDoorU20
import Derived.Test.YtfpkkobclkdniaaGreatDoorU23
import Derived.Test.YtfpkkobclkdniaaGreatDoorU13
namespace Go.Proofs.YtfpkkobclkdniaaGreatDoor
open Go.RowKit

set_option maxRecDepth 100000 in
set_option maxHeartbeats 8000000 in
theorem Filled_any (v0 : Value) (bss : List (List UInt8)) (w : World) (hb : BssAt w v0 bss) (hT : Tabs w) :
    Calls Tryz.prog 18 #[v0] w fun e w' => ∃ M rs, e = .returned (.tuple #[.pointer (some ⟨w.heap.size, 0, none⟩), .map (some M)]) ∧ Lop w.heap.size M w w' rs ((min 30 bss.length : Nat) : Int) (min 30 bss.length) ∧ FillR rs (min 30 bss.length) := by
  obtain ⟨a, cap, rfl, hc1, hc2⟩ := hb.slice
  have hat := hb.take 30
  obtain ⟨N, hN⟩ : ∃ N, min 30 bss.length = N := ⟨_, rfl⟩
  rw [hN] at hat ⊢
  have hNl : (bss.take 30).length = N := by rw [List.length_take, hN]
  obtain ⟨al, has⟩ : ∃ al, bss.take 30 = al := ⟨_, rfl⟩
  rw [has] at hat hNl
  have hm0 : 0 ≤ min (bss.length : Int) 30 := by omega
  have hm1 : min (bss.length : Int) 30 ≤ (cap : Int) := by omega
  have hmn : (min (bss.length : Int) 30).toNat = N := by omega
  have hN30 : N ≤ 30 := by omega
  have HH := (show Hid _ from And.intro hat hT)
  have hmm := @run_makeMap Tryz.prog
  clear hat hb hT has hN
  go_enter Tryz.func18, Tryz.ntmps18
  go_wp2_with fail
  refine (NewH_any w).mono ?_
  rintro e w2 ⟨rfl, h2, hb2⟩
  have hw2 : Below w2.heap.size w2 (w2.alloc (.map #[] 0)) := (Below.refl _ _).alloc (Nat.le_refl _) _
  have H2 : Hid (Lop w.heap.size w2.heap.size w (w2.alloc (.map #[] 0)) [] ((0 : Nat) : Int) 0) := ⟨h2.below hw2, pair_made h2.base_le, hb2.trans (hw2.mono hb2.size)⟩
  obtain ⟨M, hM⟩ : ∃ M, w2.heap.size = M := ⟨_, rfl⟩
  rw [hM] at H2
  clear h2 hb2 hw2
  go_wp2_with fail
  try rw [hM]
  go_loopg [6, 7, 8, 17] N (fun gg _ _ _ i wr => ∃ (k : Nat) (z : Int) (rs : List Rec), k ≤ N ∧ N - k ≤ gg ∧ i = .int .i64 z ∧ Aside (z = k ∧ Lop w.heap.size M w wr rs k k ∧ FillR rs k))
  case atStart => exact ⟨0, 0, [], Nat.zero_le _, by omega, rfl, rfl, H2.out, FillR.nil⟩
  case round =>
    obtain ⟨k, z, rs, hk, hgg, rfl, A⟩ := hrel
    obtain ⟨hz, hs, hf⟩ := A.out
    by_cases hlt : k < N
    · obtain ⟨hat, hT⟩ := HH.out
      obtain ⟨bs, he⟩ : ∃ e, al[k]? = some e := ⟨_, List.getElem?_eq_getElem (by omega)⟩
      obtain ⟨b, o, ba, bc, rfl, c0, hbs⟩ := (hat.below hs.b).at he
      have zk : z < (N : Int) := by omega
      have zk0 : 0 ≤ z := by omega
      have c0 : wr.cell? ⟨b, o + z.toNat, none⟩ = some (.slice ba bs.length bc) := by rw [hz]; exact c0
      have hdoc := Doc_any _ bs wr hbs (hT.below hs.b)
      have zl0 : wrap64 (z + 1) = z + 1 := wrap64_small (by omega) (by omega)
      have HK := (show Hid _ from And.intro hs (And.intro hf hz))
      clear hat hT hs hf hbs he hmm hz
      go_wp2_with fail
      refine hdoc.mono ?_
      rintro e w3 ⟨x, l, f, rfl, ⟨hnx, hrx, hb3⟩, -⟩
      obtain ⟨xa, xc, ya, yc, rfl, rfl⟩ := hrx.slices
      obtain ⟨hs, hf, hz⟩ := HK.out
      obtain ⟨W3, hW3⟩ : ∃ W, w3.alloc (.cells #[.int .i64 x.kind, .int .i64 x.num, .string x.text, .slice xa x.list.length xc, .slice ya x.fields.length yc] 40) = W := ⟨_, rfl⟩
      have hA3 : Below w3.heap.size w3 W3 := by rw [← hW3]; exact (Below.refl _ _).alloc (Nat.le_refl _) _
      have q3 : W3.heap[w3.heap.size]? = some (.cells #[.int .i64 x.kind, .int .i64 x.num, .string x.text, .slice xa x.list.length xc, .slice ya x.fields.length yc] 40 (0, 0)) := by rw [← hW3]; exact heap_alloc_new _ _
      have h3 : Lop w.heap.size M w W3 rs k k := (hs.below hb3).below hA3
      have hlx : Lies 3 W3 x (.slice xa x.list.length xc) (.slice ya x.fields.length yc) := (Rep.lies hrx).below hA3
      obtain ⟨x0, x1, x2, x3, x4, xf⟩ := row5 q3
      have hins := InsH_any x _ _ W3 h3.h hlx (by rw [hf.len]; omega) (by omega)
      have H3 := (show Hid _ from And.intro h3 (And.intro hlx (And.intro q3 (And.intro hnx (And.intro hf hz)))))
      clear hdoc hz hs hf hnx hrx hb3 hA3 q3 h3 hlx HK
      go_wp2_with fail
      clear hW3
      refine hins.mono ?_
      rintro e w4 ⟨rfl, h4, hk4, hb4⟩
      obtain ⟨h3, hlx, q3, hnx, hf, hz⟩ := H3.out
      obtain ⟨hM, g, hm, hg⟩ := h3.p
      have q4 : w4.heap[w3.heap.size]? = _ := hk4 _ _ q3 (fun _ e => by cases e) (fun _ e => by cases e)
      obtain ⟨y0, y1, y2, y3, y4, yf⟩ := row5 q4
      have hm4 : MapOn mkV w4 M k g rs.length := map_kept hm hk4
      have hgl : (g ((k : Int) + 1)).isSome = false := by rw [hg.isSome, get_high hf.up (by omega)]; rfl
      have HZ := (show Hid _ from And.intro h4 (And.intro (hg.kept hk4) (And.intro (Lies.kept hlx hk4) (And.intro (h3.b.trans hb4) (And.intro hM (And.intro hgl (And.intro hnx (And.intro hf hz))))))))
      clear hins h3 hlx q3 q4 hnx hf hM hm hg h4 hk4 hb4 hgl H3 x0 x1 x2 x3 x4 xf
      have zwl : (Lit.int .i64 (z + 1)).wf = true := wf_small (by omega) (by omega)
      have hml : k < maxLen := by unfold maxLen; omega
      have HML := (show Hid _ from And.intro hml zwl)
      clear hml zwl hz
      go_wp2_with (first | (at_mapUpdate; refine wpList_mput rfl _ _ _ 47 rfl 40 Tryz.underlying47 M k g rs.length rfl hm4 HML.out.1 (z + 1) HML.out.2 (by first | rfl | simp [Act.eval, zl0]) ⟨x, xa, xc, ya, yc⟩ (by first | rfl | simp [Act.eval, Act.put, mkV]) ?_; intro w5 hm5 hg5; have H5 := (show Hid _ from And.intro hm5 (And.intro hg5 (cells_put hm4 hg5))); clear hm5 hg5 y0 y1 y2 y3 y4 yf hm4) | fail)
      go_roundg (N - (k + 1))
      case measure => omega
      case rel =>
        obtain ⟨h4, hl4, hlx4, hb4, hM, hgl, hnx, hf, hz⟩ := HZ.out
        subst hz
        obtain ⟨hm5, hg5, hc5⟩ := H5.out
        have ek : ((k + 1 : Nat) : Int) = (k : Int) + 1 := by omega
        refine ⟨k + 1, (k : Int) + 1, rs ++ [((k : Int) + 1, x)], Nat.succ_le_of_lt hlt, Nat.le_refl _, by go_num, ek.symm, ?_, hf.snoc hnx⟩
        rw [ek]
        refine ⟨h4.cells hc5, ⟨hM, _, hm5.alter (fun _ => rfl) (by rw [hgl]; simp), Lp.put (hl4.cells hc5) (Lies.cells hlx4 hc5) (fun j => get_appR hf.up)⟩, hb4.grown hg5 hb4.size (fun k e => by cases e; exact hM)⟩
    · have zk : ¬ z < (N : Int) := by omega
      obtain rfl : k = N := by omega
      have HK := (show Hid _ from And.intro hs hf)
      clear hs hf hz
      go_wp2
      go_ret2
      exact ⟨M, rfl, rs, HK.out.1, HK.out.2⟩
end Go.Proofs.YtfpkkobclkdniaaGreatDoor
