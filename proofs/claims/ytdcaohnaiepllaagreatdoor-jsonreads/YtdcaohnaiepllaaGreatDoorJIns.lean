/-
  slices.Insert at fields that a caller owns, with room or without. Conditions: as stated.
-/
import Derived.Test.YtdcaohnaiepllaaGreatDoorVIns
import Derived.Test.YtdcaohnaiepllaaGreatDoorVMade3
import Derived.Lib.Overlaps
import Derived.Deep.AppendLies
namespace Go.Proofs.YtdcaohnaiepllaaGreatDoor
open Go.RowKit

theorem sizeF (w : World) : (Go.sizeOf 49).run Tryz.prog w = .ok 6 w := by
  simp [go_sem, Tryz.sizeOf49]

set_option maxRecDepth 100000 in
set_option maxHeartbeats 2000000 in
theorem Insert_in (B Bv i p c : Nat) (nw : Fl) (cur : Array Value) (w : World) (hg : w.heap[B]? = some (.cells cur 49 (0, 0))) (hsz : cur.size = c * 6) (hc : i + 1 + p < c) (_hcm : c ≤ 9223372036854775807) (hone : ∀ u ∈ cur.toList.take ((i + 1 + p) * 6), u.oneCell' = true) (hone2 : ∀ u ∈ nw.enc, u.oneCell' = true) (hn : i + 1 + p < 1000000)
    (hne : Bv ≠ B) (row : w.heap[Bv]? = some (.cells nw.enc.toArray 49 (0, 0))) :
    Calls Tryz.prog 90 #[.slice (some ⟨B, 0, none⟩) (i + 1 + p) c, .int .i64 (i : Int), .slice (some ⟨Bv, 0, none⟩) 1 1] w
      fun e w' => e = .returned (.slice (some ⟨B, 0, none⟩) (i + 1 + p + 1) c) ∧ (∃ cur', w'.heap[B]? = some (.cells cur' 49 (0, 0)) ∧ cur'.size = c * 6 ∧ cur'.toList.take ((i + 1 + p + 1) * 6) = cur.toList.take (i * 6) ++ nw.enc ++ (cur.toList.take ((i + 1 + p) * 6)).drop (i * 6)) ∧ w.grownBy w' (some B) := by
  have hen : nw.enc.length = 6 := rfl
  have hov := Lib.run_overlaps_apart (P := Tryz.prog) w 29 4 49 Tryz.underlying29 6 sizeF ⟨Bv, 0, none⟩ ⟨B, (i + 1) * 6, none⟩ 1 1 (p + 1) (c - (i + 1)) hne 49 49 6 (c * 6) (by simp [World.shape?, row, Fl.enc]) (by simp [World.shape?, hg, hsz]) (by omega) (by simp [World.frozen?, row]) (by simp [World.frozen?, row])
  rw [show p + 1 = i + 1 + p - i by omega] at hov
  have hcall : (callFunc 111 #[.slice (some ⟨Bv, 0, none⟩) 1 1, .slice (some ⟨B, (i + 1) * 6, none⟩) (i + 1 + p - i) (c - (i + 1))]).run Tryz.prog w = .ok (.value (.bool false)) w := by
    rw [@run_callFunc_extern Tryz.prog 111 _ (Extern.SlicesOverlaps.overlaps #[29, 29] #[4]) Tryz.func111 (by kernel_rfl) (by kernel_rfl) (by kernel_rfl) (by kernel_rfl), hov]
    rfl
  clear hov
  have hlk : (cur.toList.take ((i + 1 + p) * 6)).length = (i + 1 + p) * 6 := by simp; omega
  obtain ⟨rest, hrest⟩ : ∃ rest, rest = (cur.toList.take ((i + 1 + p) * 6)).drop (i * 6) := ⟨_, rfl⟩
  have hlr : rest.length = (p + 1) * 6 := by rw [hrest, List.length_drop, hlk]; omega
  obtain ⟨row1, hrow1⟩ : ∃ row1, row1 = (cur.toList.take ((i + 1) * 6) ++ rest ++ cur.toList.drop ((i + 1) * 6 + rest.length)).toArray := ⟨_, rfl⟩
  have hs1 : row1.size = c * 6 := by rw [hrow1]; simp; omega
  obtain ⟨W1, hW1⟩ : ∃ W1, W1 = w.drew.setRow B row1 := ⟨_, rfl⟩
  have hgd : w.drew.heap[B]? = some (.cells cur 49 (0, 0)) := hg
  obtain ⟨r1, hcp1⟩ : ∃ r, Hid (∀ ty, (Builtin.copy_ #[29, 29] ty #[.slice (some ⟨B, (i + 1) * 6, none⟩) (i + 1 + p - i) (c - (i + 1)), .slice (some ⟨B, i * 6, none⟩) (i + 1 + p + 1 - i) (c - i)]).run Tryz.prog w.drew = .ok r W1) := by
    refine ⟨goInt ((Nat.min (i + 1 + p + 1 - i) (i + 1 + p - i) : Nat) : Int), fun ty => ?_⟩
    have hmn : Nat.min (i + 1 + p + 1 - i) (i + 1 + p - i) = p + 1 := by rw [show i + 1 + p + 1 - i = p + 2 by omega, show i + 1 + p - i = p + 1 by omega]; exact Nat.min_eq_right (by omega)
    have := run_copy_rows w.drew ty B ((i + 1) * 6) (i + 1 + p - i) (c - (i + 1)) ⟨B, i * 6, none⟩ (i + 1 + p + 1 - i) (c - i) cur rest hgd (by rw [hmn, hlr]) (fun j u hj => by
      rw [Addr.add_lit]
      rw [hrest, List.getElem?_drop, List.getElem?_take] at hj
      split at hj
      · show w.cell? _ = _
        simpa [World.cell?, hg] using hj
      · cases hj) (by rw [hlr, hsz]; omega) (fun u hu => hone u (by rw [hrest] at hu; exact List.mem_of_mem_drop hu))
    rw [this, hW1, hrow1]
  have hg1 : W1.heap[B]? = some (.cells row1 49 (0, 0)) := by rw [hW1]; exact setRow_heap w.drew _ cur row1 _ _ hgd
  have hBv : W1.heap[Bv]? = some (.cells nw.enc.toArray 49 (0, 0)) := by rw [hW1, ← row]; exact (setRow_grown (w := w.drew) (B := B) row1).block Bv (lt_of_heap row) (fun e => hne (Option.some.inj e))
  obtain ⟨row2, hrow2⟩ : ∃ row2, row2 = (row1.toList.take (i * 6) ++ nw.enc ++ row1.toList.drop (i * 6 + nw.enc.length)).toArray := ⟨_, rfl⟩
  have hs2 : row2.size = c * 6 := by rw [hrow2]; simp; omega
  obtain ⟨W2, hW2⟩ : ∃ W2, W2 = W1.setRow B row2 := ⟨_, rfl⟩
  obtain ⟨r2, hcp2⟩ : ∃ r, Hid (∀ ty, (Builtin.copy_ #[29, 29] ty #[.slice (some ⟨B, i * 6, none⟩) (i + 1 + p + 1 - i) (c - i), .slice (some ⟨Bv, 0, none⟩) 1 1]).run Tryz.prog W1 = .ok r W2) := by
    refine ⟨goInt ((Nat.min 1 (i + 1 + p + 1 - i) : Nat) : Int), fun ty => ?_⟩
    have hmn : Nat.min 1 (i + 1 + p + 1 - i) = 1 := by rw [show i + 1 + p + 1 - i = p + 2 by omega]; exact Nat.min_eq_left (by omega)
    have := run_copy_rows W1 ty B (i * 6) (i + 1 + p + 1 - i) (c - i) ⟨Bv, 0, none⟩ 1 1 row1 nw.enc hg1 (by rw [hmn]; rfl) (fun j u hj => by rw [Addr.add_lit, Nat.zero_add]; simpa [World.cell?, hBv] using hj) (by rw [hen, hs1]; omega) hone2
    rw [this, hW2, hrow2]
  have S := (show Hid _ from And.intro hg1 (And.intro hW1 (And.intro hW2 (And.intro hrow2 (And.intro hrow1 (And.intro hrest (And.intro hlr (And.intro hs1 (And.intro hs2 hsz)))))))))
  clear hg1 hW1 hW2 hrow2 hrow1 hrest hlr hs1 hs2 hBv hgd hone hone2 hg hsz row hlk
  have q1 : ((i : Int) == (i : Int) + 1 + (p : Int)) = false := by simp; omega
  have q2 : ¬ (c : Int) < (i : Int) + 1 + (p : Int) + 1 := by omega
  have q3 : (i : Int) ≤ (i : Int) + 1 + (p : Int) := by omega
  have q4 : ¬ c = i := by omega
  have q5 : ¬ c = i + 1 := by omega
  have qw : IntKind.i64.wrap ((i : Int) + 1) = (i : Int) + 1 := by rw [IntKind.wrap_i64]; omega
  have q6 : (0 : Int) ≤ (i : Int) + 1 := by omega
  have q7 : (i : Int) + 1 ≤ (i : Int) + 1 + (p : Int) + 1 := by omega
  have q8 : (i : Int) ≤ (i : Int) + 1 + (p : Int) + 1 := by omega
  have hc2 := hcp2.out
  go_enter Tryz.func90, Tryz.ntmps90
  go_wp2
  go_region_law (refine step_copy_eq rfl (.tmp 73) (.tmp 76) 29 29 rfl _ _ (by simp [Act.eval, Act.put]) (by simp [Act.eval, Act.put]) _ _ (hcp1.out _) ?_)
  go_wp2
  go_ret
  obtain ⟨hg1, hW1, hW2, hrow2, hrow1, hrest, hlr, hs1, hs2, hsz⟩ := S.out
  have hlc : cur.toList.length = c * 6 := by simpa using hsz
  have hl1 : (cur.toList.take ((i + 1) * 6)).length = (i + 1) * 6 := by rw [List.length_take]; omega
  have hl0 : (cur.toList.take (i * 6)).length = i * 6 := by rw [List.length_take]; omega
  have t1 : row1.toList.take (i * 6) = cur.toList.take (i * 6) := by
    rw [hrow1, List.toList_toArray, List.append_assoc, List.take_append_of_le_length (by omega), List.take_take, Nat.min_eq_left (by omega)]
  have t2 : row1.toList.drop (i * 6 + 6) = rest ++ cur.toList.drop ((i + 1) * 6 + rest.length) := by
    rw [hrow1, List.toList_toArray, List.append_assoc]
    exact List.drop_left' (by omega)
  have g1 := setRow_grown (w := w.drew) (B := B) row1
  have g2 := setRow_grown (w := W1) (B := B) row2
  rw [← hW1] at g1
  rw [← hW2] at g2
  refine ⟨rfl, ⟨row2, ?_, hs2, ?_⟩, ⟨g2.os.trans g1.os, g2.tape.trans g1.tape, g2.output.trans g1.output, Nat.le_trans g1.size g2.size, fun k hk hne => (g2.block k (Nat.lt_of_lt_of_le hk g1.size) hne).trans (g1.block k hk hne)⟩⟩
  · rw [hW2]; exact setRow_heap W1 _ row1 row2 _ _ hg1
  · rw [hrow2, List.toList_toArray, t1, hen, t2, ← hrest, ← List.append_assoc]
    have hll : (cur.toList.take (i * 6) ++ nw.enc ++ rest).length = (i + 1 + p + 1) * 6 := by rw [List.length_append, List.length_append, hl0, hen, hlr]; omega
    rw [List.take_append_of_le_length (by omega), List.take_of_length_le (by omega)]

set_option maxRecDepth 100000 in
set_option maxHeartbeats 2000000 in
theorem Insert_last (fs : List Fl) (g cap B0 Bv : Nat) (nw : Fl) (w : World) (hown : w.ownsRow B0 49 6 (.slice (some ⟨g, 0, none⟩) fs.length cap) fs.length (encFs fs)) (hB0 : B0 ≤ w.heap.size)
    (hone2 : ∀ u ∈ nw.enc, u.oneCell' = true) (hn : fs.length < 1000000) (_hc0 : cap ≤ 9223372036854775807) (_hc1 : fs.length ≤ cap) (hv : ∀ i u, nw.enc[i]? = some u → w.cell? ⟨Bv, i, none⟩ = some u) :
    Calls Tryz.prog 90 #[.slice (some ⟨g, 0, none⟩) fs.length cap, .int .i64 (fs.length : Int), .slice (some ⟨Bv, 0, none⟩) 1 1] w
      fun e w' => ∃ v', e = .returned v' ∧ w'.ownsRow B0 49 6 v' (fs.length + 1) (encFs fs ++ nw.enc) ∧ w.grownBy w' (some g) ∧ (some g = v'.ownBlock ∨ ∃ g, v'.ownBlock = some g ∧ w.heap.size ≤ g) := by
  obtain ⟨i0, hi, hz0, hz1, hz2⟩ := info_parts infoF
  have HO := (show Hid _ from hown)
  have hnews : Hid (∀ j u, nw.enc[j]? = some u → w.cell? ((⟨Bv, 0, none⟩ : Addr).add j) = some u) := fun j u hj => by rw [Addr.add_lit, Nat.zero_add]; exact hv j u hj
  have H1 := (show Hid _ from hone2)
  clear hown hv hone2
  go_enter Tryz.func90, Tryz.ntmps90
  go_wp2_with (first | (at_builtin; refine wpList_append_lies _ rfl (.tmp 23) (.tmp 24) 29 rfl B0 49 i0 _ 6 96 Tryz.underlying29 hi hz0 hz1 hz2 rfl (by decide) _ fs.length (encFs fs) rfl HO.out ⟨Bv, 0, none⟩ 1 1 nw.enc rfl rfl hnews.out H1.out (by omega) (by unfold maxLen; omega) (by omega) hB0 _ rfl ?_; intro g' cap' w3 hown3 hgrow3 hlie hlt3; have Y := (show Hid _ from And.intro hown3 (And.intro hgrow3 hlie)); clear hown3 hgrow3 hlie))
  all_goals
    go_ret
    obtain ⟨hown3, hgrow3, hlie⟩ := Y.out
    refine ⟨_, rfl, hown3, hgrow3, ?_⟩
    rcases hlie with e | e
    · exact .inl e
    · exact .inr ⟨g', rfl, by omega⟩

/-- what is inserted into fields that one owns. -/
theorem Insert_own (fs : List Fl) (s : Value) (B0 Bv j : Nat) (nw : Fl) (w : World) (hown : w.ownsRow B0 49 6 s fs.length (encFs fs)) (hB0 : B0 ≤ w.heap.size)
    (hone : ∀ u ∈ encFs fs, u.oneCell' = true) (hone2 : ∀ u ∈ nw.enc, u.oneCell' = true) (hj : j ≤ fs.length) (hn : fs.length < 1000000) (hne : s.ownBlock ≠ some Bv) (row : w.heap[Bv]? = some (.cells nw.enc.toArray 49 (0, 0))) :
    Calls Tryz.prog 90 #[s, .int .i64 (j : Int), .slice (some ⟨Bv, 0, none⟩) 1 1] w
      fun e w' => ∃ v', e = .returned v' ∧ w'.ownsRow B0 49 6 v' (fs.length + 1) (encFs (fs.take j ++ nw :: fs.drop j)) ∧ w.grownBy w' s.ownBlock ∧ (s.ownBlock = v'.ownBlock ∨ ∃ g, v'.ownBlock = some g ∧ w.heap.size ≤ g) := by
  have hv : ∀ i u, nw.enc[i]? = some u → w.cell? ⟨Bv, i, none⟩ = some u := fun i u hi => by simpa [World.cell?, row] using hi
  have hsplit : encFs (fs.take j ++ nw :: fs.drop j) = (encFs fs).take (j * 6) ++ nw.enc ++ (encFs fs).drop (j * 6) := by
    rw [encFs_append, encFs_take, encFs_drop, List.append_assoc]; rfl
  have hfin : ∀ (r : Option Nat) (w' : World) (v' : Value) (m : Nat) (xs : List Value), RowAt (fun k => k = w.heap.size) w' 49 6 v' m xs → Below w.heap.size w w' → w'.ownsRow B0 49 6 v' m xs ∧ w.grownBy w' r := fun r w' v' m xs h hb =>
    ⟨ownsRow_move (fun b hb' _ => ⟨by have := h.2.2 b hb'; omega, rfl⟩) h.1, ⟨hb.os, hb.tape, hb.output, hb.size, fun k hk _ => hb.block k hk⟩⟩
  rw [hsplit]
  rcases hown with ⟨hl, ⟨rfl, hz⟩ | ⟨g, cap, cur, rfl, hBg, hg, hnc, hcm, hsz, htk⟩⟩
  · have hf : fs = [] := List.eq_nil_of_length_eq_zero hz
    subst hf
    obtain rfl : j = 0 := by simpa using hj
    refine (Insert_nil nw Bv w hv).mono ?_
    rintro e w' ⟨v', rfl, hr, hb⟩
    obtain ⟨o1, o2⟩ := hfin none w' v' _ _ hr hb
    refine ⟨v', rfl, by simpa [encFs] using o1, o2, .inr ?_⟩
    obtain ⟨b, c, rfl, _, hb2, _⟩ := hr.cells (by omega)
    exact ⟨b, rfl, by omega⟩
  · have hgv : g ≠ Bv := fun e => hne (by rw [e]; rfl)
    have hcap9 : cap ≤ 9223372036854775807 := Nat.le_trans hcm (by decide)
    by_cases he : j = fs.length
    · subst he
      have e1 : (encFs fs).take (fs.length * 6) = encFs fs := List.take_of_length_le (by omega)
      have e2 : (encFs fs).drop (fs.length * 6) = [] := List.drop_of_length_le (by omega)
      rw [e1, e2, List.append_nil]
      exact Insert_last fs g cap B0 Bv nw w ⟨hl, .inr ⟨g, cap, cur, rfl, hBg, hg, hnc, hcm, hsz, htk⟩⟩ hB0 hone2 hn hcap9 hnc hv
    · obtain ⟨p, hp⟩ : ∃ p, fs.length = j + 1 + p := ⟨fs.length - (j + 1), by omega⟩
      by_cases hfull : cap = fs.length
      · subst hfull
        have hcur : cur.toList = encFs fs := by rw [← htk]; exact (List.take_of_length_le (by simp; omega)).symm
        rw [hp, ← hcur]
        refine (Insert_mid g Bv j p nw cur w hg (by rw [hsz, hp]) (by rw [hcur]; exact hone) hone2 (by omega) hv).mono ?_
        rintro e w' ⟨v', rfl, hr, hb⟩
        obtain ⟨o1, o2⟩ := hfin (some g) w' v' _ _ hr hb
        refine ⟨v', rfl, o1, o2, .inr ?_⟩
        obtain ⟨b, c, rfl, _, hb2, _⟩ := hr.cells (by omega)
        exact ⟨b, rfl, by omega⟩
      · rw [hp] at htk hl ⊢
        refine (Insert_in g Bv j p cap nw cur w hg hsz (by omega) hcap9 (by rw [htk]; exact hone) hone2 (by omega) (fun e => hgv e.symm) row).mono ?_
        rintro e w' ⟨rfl, ⟨cur', c1, c2, c3⟩, hgr⟩
        have htj : cur.toList.take (j * 6) = (encFs fs).take (j * 6) := by rw [← htk, List.take_take, Nat.min_eq_left (by omega)]
        rw [htk, htj] at c3
        have hlj : ((encFs fs).take (j * 6)).length = j * 6 := by rw [List.length_take]; omega
        refine ⟨_, rfl, ⟨?_, .inr ⟨g, cap, cur', rfl, hBg, c1, by omega, hcm, c2, c3⟩⟩, hgr, .inl rfl⟩
        rw [List.length_append, List.length_append, hlj, List.length_drop, hl, show nw.enc.length = 6 from rfl]
        omega
end Go.Proofs.YtdcaohnaiepllaaGreatDoor
