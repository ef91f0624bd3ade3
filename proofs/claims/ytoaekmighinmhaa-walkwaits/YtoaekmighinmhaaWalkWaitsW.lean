/-
  WalkWaits's walk. No conditions beyond those stated.
-/
import Derived.Test.YtoaekmighinmhaaWQ
namespace Go.Proofs.Ytoaekmighinmhaa
open Go.RowKit

theorem next_all {l : List En} (hs : SortE l) (j : Nat) : nextE l ⟨#[]⟩ ⟨#[]⟩ false (markE l j) = l[j]? := by
  have h := next_mark hs ⟨#[]⟩ ⟨#[]⟩ false j
  rw [part_all] at h
  exact h
theorem last_at {l : List En} {x : En} (h : l.getLast? = some x) : l[l.length - 1]? = some x := by
  rw [← List.getLast?_eq_getElem?]; exact h
set_option maxRecDepth 100000 in
set_option maxHeartbeats 8000000 in
theorem WalkWaits_walk (v0 : Value) (acts : List Ac) (e1 : Ac) (hok1 : e1.ok) (w : World) (ha : ActsAt w v0 acts) :
    Calls Try.prog 8 #[v0, .agg #[.int .u8 e1.kind, .int .u8 e1.key, .int .u8 e1.id]] w fun e w' => e = .returned (.bool true) ∧ Below w.heap.size w w' := by
  obtain ⟨WA, hWA, hbA, hsA, a0, a1, a2⟩ := boxA_any w e1.kind e1.key e1.id
  have hent := Ent_any e1 hok1
  have hlow1 := ent_low e1 hok1
  have hz1 := ent_z e1
  obtain ⟨ek, ei, hee⟩ : ∃ ek ei, e1.ent = (ek, ei) := ⟨_, _, rfl⟩
  rw [hee] at hent hlow1 hz1
  obtain ⟨kd, ky, id⟩ := e1
  have hid : 0 ≤ id ∧ id < 256 := hok1.2.2.2.2
  dsimp only at *
  have HE := (show Hid _ from And.intro hent (And.intro hlow1 hz1))
  have HH := (show Hid _ from And.intro hbA (And.intro a0 (And.intro a1 (And.intro a2 (ha.below hbA)))))
  clear hent hlow1 hz1 hee hok1 hbA a0 a1 a2 ha
  go_enter Try.func8, Try.ntmps8
  go_wp2_with fail
  refine (awake9_any WA).mono ?_
  rintro e w1 ⟨rfl, hb1⟩
  obtain ⟨hbA, a0, a1, a2, ha⟩ := HH.out
  have hs1 := hb1.size
  have HL := (show Hid _ from laid2_any v0 acts w1 (ha.below hb1))
  have H1 := (show Hid _ from And.intro ((hb1.cell (lt_of_cell a0)).trans a0) (And.intro ((hb1.cell (lt_of_cell a1)).trans a1) (And.intro ((hb1.cell (lt_of_cell a2)).trans a2) (hbA.trans (hb1.mono hbA.size)))))
  clear hb1 hbA a0 a1 a2 ha HH
  go_wp2_with fail
  refine Calls.mono HL.out ?_
  rintro e w2 ⟨T, lv, l, rfl, hB, hln, hlow, hze⟩
  have HB : Hid (Both w1 w2 T l lv l ∧ l.length ≤ 60 ∧ LowE l ∧ ZE l) := ⟨hB, hln, hlow, hze⟩
  have hs2 : w1.heap.size ≤ w2.heap.size := hB.below.size
  clear hB hln hlow hze HL
  go_wp2_with fail
  refine (WNew_any w2 T ⟨#[]⟩ ⟨#[]⟩ false).mono ?_
  rintro e w3 ⟨X, rfl, hk3, hX, hb3⟩
  have K3 : Hid (Wk w3 X T ⟨#[]⟩ ⟨#[]⟩ false (markE l 0) ∧ Below w2.heap.size w2 w3) := ⟨by rw [mark_zero]; exact hk3, hb3⟩
  clear hk3 hb3
  go_wp2_with fail
  go_loopg [32] 70 (fun gg iv wr => ∃ (j : Nat), j ≤ 70 ∧ 70 - j ≤ gg ∧ iv = .int .i64 j ∧ Aside (Wk wr X T ⟨#[]⟩ ⟨#[]⟩ false (markE l j) ∧ Below w2.heap.size w2 wr))
  case atStart => exact ⟨0, Nat.zero_le _, by omega, rfl, K3.out⟩
  case round =>
    obtain ⟨j, hjN, hgg, rfl, HR⟩ := hrel
    have HQ := (show Hid _ from HR.out)
    clear HR K3
    by_cases hj : j < 70
    · have zj : (j : Int) < 70 := by omega
      obtain ⟨F, ht⟩ := Both.tree HB.out.1
      have hn := WNext_on ht HB.out.2.2.1 HQ.out.2 hX HQ.out.1
      rw [next_all ht.sort, mark_step] at hn
      have HN := (show Hid _ from next_letters hn)
      clear ht hn
      go_wp2_with fail
      refine Calls.mono HN.out ?_
      rintro e w6 ⟨rfl, hk6, hb6, -⟩
      have H6 := (show Hid _ from And.intro hk6 hb6)
      clear hk6 hb6 HN HQ
      go_wp2
      go_roundg (70 - (j + 1))
      case measure => omega
      case rel => exact ⟨j + 1, by omega, by omega, by simp, H6.out⟩
    · obtain rfl : j = 70 := by omega
      obtain ⟨wo, rfl⟩ : ∃ wo, wo = wr := ⟨_, rfl⟩
      have hm70 : markE l 70 = l.getLast? := mark_end (by have := HB.out.2.1; omega)
      have hXl : X < wo.heap.size := lt_of_heap HQ.out.1
      have hs20 : w2.heap.size ≤ wo.heap.size := HQ.out.2.size
      have Q0 : Hid (BothQ w1 wo T l lv l (fun a => False ∨ a = X) ∧ Wk wo X T ⟨#[]⟩ ⟨#[]⟩ false l.getLast?) := ⟨BothQ.more (Both.q HB.out.1) HQ.out.2 hX hXl, by rw [← hm70]; exact HQ.out.1⟩
      have hnone : nextE l ⟨#[]⟩ ⟨#[]⟩ false l.getLast? = none := by
        obtain ⟨F, ht⟩ := Both.tree HB.out.1
        rw [← hm70, next_all ht.sort]
        exact List.getElem?_eq_none (by have := HB.out.2.1; omega)
      have HNO := (show Hid _ from hnone)
      clear hm70 hnone HQ hgg hj hjN
      have hna1 : Calls Try.prog 17 #[.pointer (some ⟨X, 0, none⟩)] wo fun r w' => r = .returned (.tuple #[.agg #[.string ⟨#[]⟩, .int .i64 0], .bool false]) ∧ Wk w' X T ⟨#[]⟩ ⟨#[]⟩ false l.getLast? ∧ Far (fun a => a = X) wo w' := by
        obtain ⟨F, ht⟩ := Q0.out.1.1.both.tree
        have h := WNext_any Q0.out.2 ht HB.out.2.2.1
        rw [HNO.out] at h
        exact h
      have HN := (show Hid _ from hna1)
      clear hna1
      go_wp2_with fail
      refine Calls.mono HN.out ?_
      rintro e wa1x ⟨rfl, hk, hf⟩
      obtain ⟨wa1, hw, hb, hsa1, -⟩ := boxE_any wa1x ⟨#[]⟩ 0
      have HWZ := (show Hid _ from hw)
      have hsa1x := hf.size
      have Q1 : Hid (BothQ w1 wa1 T l lv l (fun a => False ∨ a = X) ∧ Wk wa1 X T ⟨#[]⟩ ⟨#[]⟩ false l.getLast?) := ⟨(Q0.out.1.far hf (.inr rfl) (by omega)).same hb, Wk.below hk hb⟩
      clear hw hb hk hf HN Q0
      obtain ⟨mk, hmk⟩ : ∃ x, (orE l.getLast?).1 = x := ⟨_, rfl⟩
      obtain ⟨mi, hmi⟩ : ∃ x, (orE l.getLast?).2 = x := ⟨_, rfl⟩
      obtain ⟨mb, hmb⟩ : ∃ x, l.getLast?.isSome = x := ⟨_, rfl⟩
      have hmark := WMark_any Q1.out.2
      rw [hmk, hmi, hmb] at hmark
      have HMM := (show Hid _ from And.intro hmk (And.intro hmi hmb))
      have HMA := (show Hid _ from hmark)
      clear hmk hmi hmb hmark
      go_wp2_with fail
      rw [HWZ.out]
      clear HWZ
      refine Calls.mono HMA.out ?_
      rintro e wa2 ⟨rfl, hb2⟩
      obtain ⟨wa3, hw, hb, hsa3, rM⟩ := boxM_any wa2 mk mi mb
      have hb23 := hb2.trans (hb.mono hb2.size)
      have hsa2 : wa1.heap.size ≤ wa2.heap.size := hb2.size
      have Q2 : Hid (BothQ w1 wa3 T l lv l (fun a => (False ∨ a = X) ∨ a = wa2.heap.size) ∧ Wk wa3 X T ⟨#[]⟩ ⟨#[]⟩ false l.getLast? ∧ Mk wa3 wa2.heap.size mk mi mb) := ⟨BothQ.more Q1.out.1 hb23 hb2.size (by omega), Wk.below Q1.out.2 hb23, rM⟩
      clear hb2 hb hb23 rM Q1 HMA
      have hna4 : Calls Try.prog 17 #[.pointer (some ⟨X, 0, none⟩)] wa3 fun r w' => r = .returned (.tuple #[.agg #[.string ⟨#[]⟩, .int .i64 0], .bool false]) ∧ Wk w' X T ⟨#[]⟩ ⟨#[]⟩ false l.getLast? ∧ Far (fun a => a = X) wa3 w' := by
        obtain ⟨F, ht⟩ := Q2.out.1.1.both.tree
        have h := WNext_any Q2.out.2.1 ht HB.out.2.2.1
        rw [HNO.out] at h
        exact h
      have HN := (show Hid _ from hna4)
      clear hna4
      go_wp2_with fail
      refine Calls.mono HN.out ?_
      rintro e wa4x ⟨rfl, hk, hf⟩
      obtain ⟨wa4, hw, hb, hsa4, -⟩ := boxE_any wa4x ⟨#[]⟩ 0
      have HWZ := (show Hid _ from hw)
      have hsa4x := hf.size
      have Q3 : Hid (BothQ w1 wa4 T l lv l (fun a => (False ∨ a = X) ∨ a = wa2.heap.size) ∧ Wk wa4 X T ⟨#[]⟩ ⟨#[]⟩ false l.getLast? ∧ Mk wa4 wa2.heap.size mk mi mb) := ⟨(Q2.out.1.far hf (.inl (.inr rfl)) (by omega)).same hb, Wk.below hk hb, Mk.below (Mk.far Q2.out.2.2 hf (by omega)) hb⟩
      obtain ⟨b0, b1, b2⟩ : wa4.cell? ⟨w.heap.size, 0, none⟩ = some (.int .u8 kd) ∧ wa4.cell? ⟨w.heap.size, 1, none⟩ = some (.int .u8 ky) ∧ wa4.cell? ⟨w.heap.size, 2, none⟩ = some (.int .u8 id) :=
        ⟨(Q3.out.1.below.cell (lt_of_cell H1.out.1)).trans H1.out.1, (Q3.out.1.below.cell (lt_of_cell H1.out.2.1)).trans H1.out.2.1, (Q3.out.1.below.cell (lt_of_cell H1.out.2.2.1)).trans H1.out.2.2.1⟩
      obtain ⟨wa5, hw5, hb5, hsa5, r5⟩ := boxE_any wa4 ⟨#[122]⟩ id
      have d0 := (hb5.cell (lt_of_cell b0)).trans b0
      have d1 := (hb5.cell (lt_of_cell b1)).trans b1
      have d2 := (hb5.cell (lt_of_cell b2)).trans b2
      rw [hsa4] at r5
      have Q5 : Hid (BothQ w1 wa5 T l lv l (fun a => ((False ∨ a = X) ∨ a = wa2.heap.size) ∨ a = wa4x.heap.size + 1) ∧ Wk wa5 X T ⟨#[]⟩ ⟨#[]⟩ false l.getLast? ∧ Mk wa5 wa2.heap.size mk mi mb ∧ Bx wa5 (wa4x.heap.size + 1) ⟨#[122]⟩ id) := ⟨BothQ.more Q3.out.1 hb5 (by omega) (by omega), Wk.below Q3.out.2.1 hb5, Mk.below Q3.out.2.2 hb5, r5⟩
      have HW5 := (show Hid _ from hw5)
      rw [← hw5, ← hw] at d0 d1 d2
      rw [← hw] at b0 b1 b2
      clear hw hb hk hf HN Q2 hw5 hb5 r5 Q3
      go_wp2_with fail
      rw [HWZ.out, HW5.out]
      clear HWZ HW5 b0 b1 b2 d0 d1 d2
      refine Calls.mono (HE.out.1 wa5) ?_
      rintro e wa6 ⟨rfl, hb6⟩
      have Q6 := (show Hid _ from And.intro (BothQ.same Q5.out.1 hb6) (And.intro (Wk.below Q5.out.2.1 hb6) (And.intro (Mk.below Q5.out.2.2.1 hb6) (Bx.below Q5.out.2.2.2 hb6))))
      clear hb6 Q5
      go_wp2_with fail
      refine Calls.mono (BothQ.add Q6.out.1 (ek, ei) (by have := HB.out.2.1; omega)) ?_
      rintro e wa7 ⟨rfl, hB7, hP7⟩
      have Q7 : Hid (BothQ w1 wa7 T (insE (ek, ei) l) lv l (fun a => ((False ∨ a = X) ∨ a = wa2.heap.size) ∨ a = wa4x.heap.size + 1) ∧ Wk wa7 X T ⟨#[]⟩ ⟨#[]⟩ false l.getLast? ∧ Mk wa7 wa2.heap.size mk mi mb ∧ Bx wa7 (wa4x.heap.size + 1) ⟨#[122]⟩ id) :=
        ⟨hB7, (hP7 X (.inl (.inl (.inr rfl)))).trans Q6.out.2.1, (hP7 wa2.heap.size (.inl (.inr rfl))).trans Q6.out.2.2.1, (hP7 (wa4x.heap.size + 1) (.inr rfl)).trans Q6.out.2.2.2⟩
      obtain ⟨y0, y1, yf, yl⟩ := row2_of Q7.out.2.2.2
      clear hB7 hP7 Q6
      go_wp2_with fail
      refine Calls.mono (BothQ.add Q7.out.1 (⟨#[122]⟩, id) (by have := HB.out.2.1; have := len_ins (ek, ei) l; omega)) ?_
      rintro e wa8 ⟨rfl, hB8, hP8⟩
      have Q8 : Hid (BothQ w1 wa8 T (insE (⟨#[122]⟩, id) (insE (ek, ei) l)) lv l (fun a => ((False ∨ a = X) ∨ a = wa2.heap.size) ∨ a = wa4x.heap.size + 1) ∧ Wk wa8 X T ⟨#[]⟩ ⟨#[]⟩ false l.getLast? ∧ Mk wa8 wa2.heap.size mk mi mb ∧ Bx wa8 (wa4x.heap.size + 1) ⟨#[122]⟩ id) :=
        ⟨hB8, (hP8 X (.inl (.inl (.inr rfl)))).trans Q7.out.2.1, (hP8 wa2.heap.size (.inl (.inr rfl))).trans Q7.out.2.2.1, (hP8 (wa4x.heap.size + 1) (.inr rfl)).trans Q7.out.2.2.2⟩
      clear hB8 hP8 Q7 y0 y1 yf yl
      have hs20' : SortE l := by
        obtain ⟨F, ht⟩ := Both.tree HB.out.1
        exact ht.sort
      have hs28 : SortE (insE (⟨#[122]⟩, id) (insE (ek, ei) l)) := Q8.out.1.1.both.sort
      have hmem : ∀ y, y ∈ insE (⟨#[122]⟩, id) (insE (ek, ei) l) ↔ y = (⟨#[122]⟩, id) ∨ y = (ek, ei) ∨ y ∈ l := fun y => by rw [mem_insE, mem_insE]
      have hez : cmpE (ek, ei) (⟨#[122]⟩, id) < 0 := lt_of_key HE.out.2.2
      have hlow2 : LowE (insE (⟨#[122]⟩, id) (insE (ek, ei) l)) := low_ins (low_ins HB.out.2.2.1 HE.out.2.1) (by show minI ≤ id; unfold minI; omega)
      have HP := (show Hid _ from And.intro hs20' (And.intro hs28 (And.intro hmem (And.intro hez hlow2))))
      clear hs20' hs28 hmem hez hlow2
      by_cases hnew : ∀ x, l.getLast? = some x → cmpE x (ek, ei) < 0
      · have hon := wait_new HP.out.1 HP.out.2.1 HP.out.2.2.1 HP.out.2.2.2.1 hnew
        cases hx : l.getLast? with
        | none =>
          have hn : Calls Try.prog 17 #[.pointer (some ⟨X, 0, none⟩)] wa8 fun r w' => r = .returned (.tuple #[.agg #[.string ek, .int .i64 ei], .bool true]) ∧ Far (fun a => a = X) wa8 w' := by
            obtain ⟨F, ht⟩ := Q8.out.1.1.both.tree
            have h := WNext_any Q8.out.2.1 ht HP.out.2.2.2.2
            rw [hon] at h
            exact h.mono fun r w' ⟨k1, _, k3⟩ => ⟨k1, k3⟩
          have HN := (show Hid _ from hn)
          clear hn hon
          go_wp2_with fail
          refine Calls.mono HN.out ?_
          rintro e wa9 ⟨rfl, hf9⟩
          obtain ⟨wb, hwb, hbb, hsb, rb⟩ := boxE_any wa9 ek ei
          have QB : Hid (BothQ w1 wb T (insE (⟨#[122]⟩, id) (insE (ek, ei) l)) lv l (fun a => ((False ∨ a = X) ∨ a = wa2.heap.size) ∨ a = wa4x.heap.size + 1) ∧ Mk wb wa2.heap.size mk mi mb ∧ Bx wb (wa4x.heap.size + 1) ⟨#[122]⟩ id ∧ Bx wb wa9.heap.size ek ei) :=
            ⟨(Q8.out.1.far hf9 (.inl (.inl (.inr rfl))) (by omega)).same hbb, Mk.below (Mk.far Q8.out.2.2.1 hf9 (by omega)) hbb, Bx.below (Bx.far Q8.out.2.2.2 hf9 (by omega)) hbb, rb⟩
          clear hf9 hbb rb HN Q8
          obtain ⟨b0, b1, b2⟩ : wb.cell? ⟨w.heap.size, 0, none⟩ = some (.int .u8 kd) ∧ wb.cell? ⟨w.heap.size, 1, none⟩ = some (.int .u8 ky) ∧ wb.cell? ⟨w.heap.size, 2, none⟩ = some (.int .u8 id) :=
            ⟨(QB.out.1.below.cell (lt_of_cell H1.out.1)).trans H1.out.1, (QB.out.1.below.cell (lt_of_cell H1.out.2.1)).trans H1.out.2.1, (QB.out.1.below.cell (lt_of_cell H1.out.2.2.1)).trans H1.out.2.2.1⟩
          have G0 := cell_regrown b0
          have G1 := cell_regrown b1
          have G2 := cell_regrown b2
          have hentW := fun (d : Nat) (os : Array Obj) => Calls.regrown_of (HE.out.1 (Go.Sort.grow (redrawn wb d) os))
          have hl0 : l = [] := List.getLast?_eq_none_iff.1 hx
          obtain ⟨B, hrow⟩ := QB.out.1.1.both.row
          obtain ⟨la, lc, hv⟩ := slice_of_row hrow
          rw [hl0] at hv
          subst hv
          clear hrow
          go_wp2_with fail
          refine wp_region_quiet_below mixed (by kernel_rfl) ?_
          repeat go_big_quiet_step (fail)
          refine wpQuiet_nil ?_
          rintro w18 ⟨⟨dq, osq⟩, hw18⟩
          have hb18 : Below wb.heap.size wb w18 := by rw [hw18]; exact below_regrown _ dq osq
          have QC := (show Hid _ from And.intro (BothQ.same QB.out.1 hb18) (And.intro (Mk.below QB.out.2.1 hb18) (And.intro (Bx.below QB.out.2.2.1 hb18) (Bx.below QB.out.2.2.2 hb18))))
          clear G0 G1 G2
          obtain ⟨x0, x1, xf, xl⟩ := row2_of QC.out.2.2.2
          have G0 := cell_regrown ((hb18.cell (lt_of_cell b0)).trans b0)
          have G1 := cell_regrown ((hb18.cell (lt_of_cell b1)).trans b1)
          have G2 := cell_regrown ((hb18.cell (lt_of_cell b2)).trans b2)
          have G5 := cell_regrown x0
          have G6 := cell_regrown x1
          have hent2 := fun (d : Nat) (os : Array Obj) => Calls.regrown_of (HE.out.1 (Go.Sort.grow (redrawn w18 d) os))
          clear hb18 hw18 hentW QB b0 b1 b2 x0 x1
          go_wp2_with fail
          refine wp_region_quiet_below mixed (by kernel_rfl) ?_
          iterate 12 go_big_quiet_step (fail)
          go_big_quiet_step (exact hent2 _ _)
          repeat go_big_quiet_step (fail)
          refine wpQuiet_nil ?_
          rintro w19 ⟨⟨dq2, osq2⟩, hw19⟩
          have hb19 : Below w18.heap.size w18 w19 := by rw [hw19]; exact below_regrown _ dq2 osq2
          have HF : Hid (Below w.heap.size w w19) := H1.out.2.2.2.trans ((QC.out.1.below.trans (hb19.mono QC.out.1.below.size)).mono H1.out.2.2.2.size)
          clear hw19 hb19 G0 G1 G2 G5 G6 hent2 QC
          go_wp2
          go_ret
          exact ⟨rfl, HF.out⟩
        | some x =>
          have hn : Calls Try.prog 17 #[.pointer (some ⟨X, 0, none⟩)] wa8 fun r w' => r = .returned (.tuple #[.agg #[.string ek, .int .i64 ei], .bool true]) ∧ Far (fun a => a = X) wa8 w' := by
            obtain ⟨F, ht⟩ := Q8.out.1.1.both.tree
            have h := WNext_any Q8.out.2.1 ht HP.out.2.2.2.2
            rw [hon] at h
            exact h.mono fun r w' ⟨k1, _, k3⟩ => ⟨k1, k3⟩
          have HN := (show Hid _ from hn)
          clear hn hon
          go_wp2_with fail
          refine Calls.mono HN.out ?_
          rintro e wa9 ⟨rfl, hf9⟩
          obtain ⟨wb, hwb, hbb, hsb, rb⟩ := boxE_any wa9 ek ei
          have QB : Hid (BothQ w1 wb T (insE (⟨#[122]⟩, id) (insE (ek, ei) l)) lv l (fun a => ((False ∨ a = X) ∨ a = wa2.heap.size) ∨ a = wa4x.heap.size + 1) ∧ Mk wb wa2.heap.size mk mi mb ∧ Bx wb (wa4x.heap.size + 1) ⟨#[122]⟩ id ∧ Bx wb wa9.heap.size ek ei) :=
            ⟨(Q8.out.1.far hf9 (.inl (.inl (.inr rfl))) (by omega)).same hbb, Mk.below (Mk.far Q8.out.2.2.1 hf9 (by omega)) hbb, Bx.below (Bx.far Q8.out.2.2.2 hf9 (by omega)) hbb, rb⟩
          clear hf9 hbb rb HN Q8
          obtain ⟨b0, b1, b2⟩ : wb.cell? ⟨w.heap.size, 0, none⟩ = some (.int .u8 kd) ∧ wb.cell? ⟨w.heap.size, 1, none⟩ = some (.int .u8 ky) ∧ wb.cell? ⟨w.heap.size, 2, none⟩ = some (.int .u8 id) :=
            ⟨(QB.out.1.below.cell (lt_of_cell H1.out.1)).trans H1.out.1, (QB.out.1.below.cell (lt_of_cell H1.out.2.1)).trans H1.out.2.1, (QB.out.1.below.cell (lt_of_cell H1.out.2.2.1)).trans H1.out.2.2.1⟩
          have G0 := cell_regrown b0
          have G1 := cell_regrown b1
          have G2 := cell_regrown b2
          have hentW := fun (d : Nat) (os : Array Obj) => Calls.regrown_of (HE.out.1 (Go.Sort.grow (redrawn wb d) os))
          obtain ⟨xk, xi⟩ := x
          obtain ⟨B, hrow⟩ := QB.out.1.1.both.row
          obtain ⟨B', c, hv, hc1, hc2, e0, e1, -⟩ := row_entry hrow (last_at hx)
          have hne : l.length ≠ 0 := fun h => by rw [List.length_eq_zero_iff.1 h] at hx; cases hx
          obtain ⟨L, hL⟩ : ∃ L, l.length = L := ⟨_, rfl⟩
          have HRO := (show Hid _ from And.intro hrow hL)
          rw [hL] at hv hc1 e0 e1 hne
          subst hv
          have hL60 : L ≤ 60 := by have := HB.out.2.1; omega
          have zL : ¬ (L : Int) = 0 := by omega
          have zd1 : decide ((L : Int) = 0) = false := decide_eq_false zL
          have zd2 : ((L : Int) == 0) = false := beq_false_of_ne zL
          clear zL
          dsimp only at e0 e1
          have G3 := cell_regrown e0
          have G4 := cell_regrown e1
          clear hrow hL
          have hbl := fun (d : Nat) (os : Array Obj) => Calls.regrown_of (Below_any (xk, xi) (ek, ei) (Go.Sort.grow (redrawn wb d) os))
          rw [decide_eq_true (hnew (xk, xi) hx)] at hbl
          go_wp2_with fail
          refine wp_region_quiet_below mixed (by kernel_rfl) ?_
          iterate 11 go_big_quiet_step (fail)
          go_big_quiet_step (exact hentW _ _)
          go_big_quiet_step (exact hbl _ _)
          go_big_quiet_step (fail)
          refine wpQuiet_nil ?_
          rintro w18 ⟨⟨dq, osq⟩, hw18⟩
          have hb18 : Below wb.heap.size wb w18 := by rw [hw18]; exact below_regrown _ dq osq
          have QC := (show Hid _ from And.intro (BothQ.same QB.out.1 hb18) (And.intro (Mk.below QB.out.2.1 hb18) (And.intro (Bx.below QB.out.2.2.1 hb18) (Bx.below QB.out.2.2.2 hb18))))
          clear G3 G4 hbl
          clear G0 G1 G2
          obtain ⟨x0, x1, xf, xl⟩ := row2_of QC.out.2.2.2
          have G0 := cell_regrown ((hb18.cell (lt_of_cell b0)).trans b0)
          have G1 := cell_regrown ((hb18.cell (lt_of_cell b1)).trans b1)
          have G2 := cell_regrown ((hb18.cell (lt_of_cell b2)).trans b2)
          have G5 := cell_regrown x0
          have G6 := cell_regrown x1
          have hent2 := fun (d : Nat) (os : Array Obj) => Calls.regrown_of (HE.out.1 (Go.Sort.grow (redrawn w18 d) os))
          clear hb18 hw18 hentW QB b0 b1 b2 x0 x1
          go_wp2_with fail
          refine wp_region_quiet_below mixed (by kernel_rfl) ?_
          iterate 12 go_big_quiet_step (fail)
          go_big_quiet_step (exact hent2 _ _)
          repeat go_big_quiet_step (fail)
          refine wpQuiet_nil ?_
          rintro w19 ⟨⟨dq2, osq2⟩, hw19⟩
          have hb19 : Below w18.heap.size w18 w19 := by rw [hw19]; exact below_regrown _ dq2 osq2
          have HF : Hid (Below w.heap.size w w19) := H1.out.2.2.2.trans ((QC.out.1.below.trans (hb19.mono QC.out.1.below.size)).mono H1.out.2.2.2.size)
          clear hw19 hb19 G0 G1 G2 G5 G6 hent2 QC
          go_wp2
          go_ret
          exact ⟨rfl, HF.out⟩
      · obtain ⟨x, hx, hnx⟩ : ∃ x, l.getLast? = some x ∧ ¬ cmpE x (ek, ei) < 0 := by
          refine Decidable.byContradiction fun hc => hnew fun x hx => Decidable.byContradiction fun hn => hc ⟨x, hx, hn⟩
        have hon : nextE (insE (⟨#[122]⟩, id) (insE (ek, ei) l)) ⟨#[]⟩ ⟨#[]⟩ false l.getLast? = some (⟨#[122]⟩, id) := by
          rw [hx]
          exact wait_late HP.out.1 HP.out.2.1 HP.out.2.2.1 hx hnx (lt_of_key (HB.out.2.2.2 x (List.mem_of_getLast? hx)))
        have HNX := (show Hid _ from hnx)
        clear hnew hnx
        have hn : Calls Try.prog 17 #[.pointer (some ⟨X, 0, none⟩)] wa8 fun r w' => r = .returned (.tuple #[.agg #[.string ⟨#[122]⟩, .int .i64 id], .bool true]) ∧ Far (fun a => a = X) wa8 w' := by
          obtain ⟨F, ht⟩ := Q8.out.1.1.both.tree
          have h := WNext_any Q8.out.2.1 ht HP.out.2.2.2.2
          rw [hon] at h
          exact h.mono fun r w' ⟨k1, _, k3⟩ => ⟨k1, k3⟩
        have HN := (show Hid _ from hn)
        clear hn hon
        go_wp2_with fail
        refine Calls.mono HN.out ?_
        rintro e wa9 ⟨rfl, hf9⟩
        obtain ⟨wb, hwb, hbb, hsb, rb⟩ := boxE_any wa9 ⟨#[122]⟩ id
        have QB : Hid (BothQ w1 wb T (insE (⟨#[122]⟩, id) (insE (ek, ei) l)) lv l (fun a => ((False ∨ a = X) ∨ a = wa2.heap.size) ∨ a = wa4x.heap.size + 1) ∧ Mk wb wa2.heap.size mk mi mb ∧ Bx wb (wa4x.heap.size + 1) ⟨#[122]⟩ id ∧ Bx wb wa9.heap.size ⟨#[122]⟩ id) :=
          ⟨(Q8.out.1.far hf9 (.inl (.inl (.inr rfl))) (by omega)).same hbb, Mk.below (Mk.far Q8.out.2.2.1 hf9 (by omega)) hbb, Bx.below (Bx.far Q8.out.2.2.2 hf9 (by omega)) hbb, rb⟩
        clear hf9 hbb rb HN Q8
        obtain ⟨b0, b1, b2⟩ : wb.cell? ⟨w.heap.size, 0, none⟩ = some (.int .u8 kd) ∧ wb.cell? ⟨w.heap.size, 1, none⟩ = some (.int .u8 ky) ∧ wb.cell? ⟨w.heap.size, 2, none⟩ = some (.int .u8 id) :=
          ⟨(QB.out.1.below.cell (lt_of_cell H1.out.1)).trans H1.out.1, (QB.out.1.below.cell (lt_of_cell H1.out.2.1)).trans H1.out.2.1, (QB.out.1.below.cell (lt_of_cell H1.out.2.2.1)).trans H1.out.2.2.1⟩
        have G0 := cell_regrown b0
        have G1 := cell_regrown b1
        have G2 := cell_regrown b2
        have hentW := fun (d : Nat) (os : Array Obj) => Calls.regrown_of (HE.out.1 (Go.Sort.grow (redrawn wb d) os))
        obtain ⟨xk, xi⟩ := x
        obtain ⟨B, hrow⟩ := QB.out.1.1.both.row
        obtain ⟨B', c, hv, hc1, hc2, e0, e1, -⟩ := row_entry hrow (last_at hx)
        have hne : l.length ≠ 0 := fun h => by rw [List.length_eq_zero_iff.1 h] at hx; cases hx
        obtain ⟨L, hL⟩ : ∃ L, l.length = L := ⟨_, rfl⟩
        have HRO := (show Hid _ from And.intro hrow hL)
        rw [hL] at hv hc1 e0 e1 hne
        subst hv
        have hL60 : L ≤ 60 := by have := HB.out.2.1; omega
        have zL : ¬ (L : Int) = 0 := by omega
        have zd1 : decide ((L : Int) = 0) = false := decide_eq_false zL
        have zd2 : ((L : Int) == 0) = false := beq_false_of_ne zL
        clear zL
        dsimp only at e0 e1
        have G3 := cell_regrown e0
        have G4 := cell_regrown e1
        clear hrow hL
        obtain ⟨q1, q2, q3⟩ := HMM.out
        rw [hx] at q1 q2 q3
        obtain rfl : xk = mk := q1
        obtain rfl : xi = mi := q2
        obtain rfl : true = mb := q3
        clear HMM
        have hbl := fun (d : Nat) (os : Array Obj) => Calls.regrown_of (Below_any (xk, xi) (ek, ei) (Go.Sort.grow (redrawn wb d) os))
        rw [decide_eq_false (show ¬ cmpE (xk, xi) (ek, ei) < 0 from HNX.out)] at hbl
        go_wp2_with fail
        refine wp_region_quiet_below mixed (by kernel_rfl) ?_
        iterate 11 go_big_quiet_step (fail)
        go_big_quiet_step (exact hentW _ _)
        go_big_quiet_step (exact hbl _ _)
        go_big_quiet_step (fail)
        refine wpQuiet_nil ?_
        rintro w18 ⟨⟨dq, osq⟩, hw18⟩
        have hb18 : Below wb.heap.size wb w18 := by rw [hw18]; exact below_regrown _ dq osq
        have QC := (show Hid _ from And.intro (BothQ.same QB.out.1 hb18) (And.intro (Mk.below QB.out.2.1 hb18) (And.intro (Bx.below QB.out.2.2.1 hb18) (Bx.below QB.out.2.2.2 hb18))))
        clear G0 G1 G2 G3 G4
        obtain ⟨x0, x1, xf, xl⟩ := row2_of QC.out.2.2.2
        obtain ⟨y0, y1, yf, yl⟩ := row2_of QC.out.2.2.1
        obtain ⟨m0, m1, m2, -, -⟩ := Mk.view QC.out.2.1
        have G0 := cell_regrown ((hb18.cell (lt_of_cell e0)).trans e0)
        have G1 := cell_regrown ((hb18.cell (lt_of_cell e1)).trans e1)
        have G2 := cell_regrown m0
        have G3 := cell_regrown m1
        have G4 := cell_regrown m2
        have G5 := cell_regrown x0
        have G6 := cell_regrown x1
        have G7 := cell_regrown y0
        have G8 := cell_regrown y1
        clear hb18 hw18 hentW hbl QB b0 b1 b2 x0 x1 y0 y1 m0 m1 m2 e0 e1
        go_wp2_with fail
        refine wp_region_quiet_below mixed (by kernel_rfl) ?_
        repeat go_big_quiet_step (fail)
        refine wpQuiet_nil ?_
        rintro w19 ⟨⟨dq2, osq2⟩, hw19⟩
        have hb19 : Below w18.heap.size w18 w19 := by rw [hw19]; exact below_regrown _ dq2 osq2
        have HF : Hid (Below w.heap.size w w19) := H1.out.2.2.2.trans ((QC.out.1.below.trans (hb19.mono QC.out.1.below.size)).mono H1.out.2.2.2.size)
        clear hw19 hb19 G0 G1 G2 G3 G4 G5 G6 G7 G8 QC
        go_wp2
        go_ret
        exact ⟨rfl, HF.out⟩
end Go.Proofs.Ytoaekmighinmhaa
