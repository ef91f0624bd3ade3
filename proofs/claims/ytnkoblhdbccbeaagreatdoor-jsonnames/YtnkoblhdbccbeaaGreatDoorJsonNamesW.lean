/-
  JsonNames' walk: in whichever order an object's fields stand they are the same; a name that comes twice is wrong. Conditions: as stated.
-/
import Derived.Test.YtnkoblhdbccbeaaGreatDoorJNames
import Derived.Test.YtnkoblhdbccbeaaGreatDoorU17
import Derived.Test.YtnkoblhdbccbeaaGreatDoorVDoc
import Derived.Test.YtnkoblhdbccbeaaGreatDoorU8
namespace Go.Proofs.YtnkoblhdbccbeaaGreatDoor
open Go.RowKit Go.Extern.Stop Go.Stop Go.Extern

theorem napp_list (a b : ByteArray) : (a ++ b).data.toList = a.data.toList ++ b.data.toList := by simp
theorem napp_size (a b : ByteArray) : (a ++ b).size = a.size + b.size := by simp

set_option maxRecDepth 100000 in
set_option maxHeartbeats 8000000 in
theorem JsonNames_walk (s : Value) (bs : List UInt8) (nm : ByteArray) (_hnm : nm.size ≤ maxLen) (turn : Bool) (W : World) (hb : BytesAt W s bs) (hE : JEnv W ∧ Tabs W) :
    Calls Tryz.prog 9 #[s, .string nm, .bool turn] W fun e w' => e = .returned (.bool true) ∧ Below W.heap.size W w' := by
  obtain ⟨hE, hT⟩ := hE
  have haw := awake_true W hE
  have hof := fun W' (hW : Below W.heap.size W W') => Doc_any s bs W' (hb.below hW) (hT.below hW)
  obtain ⟨sa, sn, sc, rfl⟩ : ∃ a n c, s = .slice a n c := by
    obtain ⟨a, c, e, _⟩ := hb
    exact ⟨_, _, _, e⟩
  have HE := (show Hid _ from hE)
  clear hE hT hb
  go_enter Tryz.func9, Tryz.ntmps9
  go_wp2_with fail
  refine haw.mono ?_
  rintro e w1 ⟨rfl, hb1⟩
  have hof1 := hof w1 hb1
  have H1 := (show Hid _ from hb1)
  clear haw hof hb1
  go_wp2_with fail
  refine hof1.mono ?_
  rintro e w2 ⟨v, l, f, rfl, ⟨hnv, hrv, hb2⟩, hkd⟩
  obtain ⟨al, cl, af, cf, rfl, rfl⟩ := hrv.slices
  obtain ⟨⟨es, e1, e2, e3⟩, ⟨fs, f1, f2, f3⟩⟩ := id hrv
  obtain ⟨n, hn⟩ : ∃ n, v.fields.length = n := ⟨_, rfl⟩
  rw [hn] at hrv f2 ⊢
  have hB2 := H1.out.trans (hb2.mono H1.out.size)
  obtain ⟨O2, hO2⟩ : ∃ O, O = Obj.cells #[.int .i64 v.kind, .int .i64 v.num, .string v.text, .slice al v.list.length cl, .slice af n cf] 31 := ⟨_, rfl⟩
  have hA2 : Below w2.heap.size w2 (w2.alloc O2) := (Below.refl _ _).alloc (Nat.le_refl _) _
  have hB2' := hB2.trans (hA2.mono hB2.size)
  have hfl : fs.length = n := by rw [← hn, ← f1, List.length_map]
  have hf4 : n ≤ 4 := by rw [← hn]; exact hnv.inner.2.1
  have r2 : (w2.alloc O2).heap[w2.heap.size]? = some (.cells #[.int .i64 v.kind, .int .i64 v.num, .string v.text, .slice al v.list.length cl, .slice af n cf] 31 (0, 0)) := by rw [heap_alloc_new, hO2]
  obtain ⟨xs, hxs⟩ : ∃ xs, xs = (if turn = true then v.fields.reverse else v.fields) := ⟨_, rfl⟩
  have hord : Order v xs := by
    cases turn
    · exact ⟨.inl hxs⟩
    · exact ⟨.inr hxs⟩
  have hxl : xs.length = n := by rw [← hn]; exact (hord.facts hnv).2.1
  have H2 := (show Hid _ from And.intro hnv (And.intro hrv (And.intro hA2 (And.intro hB2' (And.intro hO2 (And.intro r2 (And.intro hord (And.intro hxs (And.intro f1 (And.intro f2 (And.intro f3 (And.intro hfl (And.intro hxl (And.intro hkd hn))))))))))))))
  clear hof1 hnv hrv hb2 hB2 hA2 hB2' hO2 r2 hord hxs f1 f2 f3 hfl hkd e1 e2 e3 hn hxl
  go_wp2_with fail
  go_loopg [8, 9, 10, 22] n (fun gg s8 _ _ i wr => ∃ (k : Nat) (B : ByteArray), k ≤ n ∧ n - k ≤ gg ∧ i = .int .i64 k ∧ s8 = .string B ∧ Aside (B.data.toList = namesT (xs.take k)) ∧ Aside (Below (w2.alloc O2).heap.size (w2.alloc O2) wr))
  case atStart => exact ⟨0, ⟨#[]⟩, Nat.zero_le _, by omega, rfl, rfl, rfl, (by show Below _ _ _; rw [H2.out.2.2.2.2.1]; exact Below.refl _ _)⟩
  case round =>
    obtain ⟨k, B, hk, hgg, rfl, rfl, hB, hW⟩ := hrel
    obtain ⟨hnv, hrv, hA2, hB2', hO2, r2, hord, hxs, f1, f2, f3, hfl, hxl, hkd, hn⟩ := H2.out
    have rr := (hW.out.block _ (lt_of_heap r2)).trans r2
    obtain ⟨j0, j1, j2, j3, j4, jf⟩ := row5 rr
    have hltr := lt_of_heap rr
    have hA2w := hA2.trans (hW.out.mono hA2.size)
    have hBz : B.size ≤ 2000 := by
      rw [size_list hB.out]
      exact Nat.le_trans (names_part xs k) (names_len hord hnv)
    by_cases hlt : k < n
    · obtain ⟨b0, c', e1, hb0, _, hc1, hc2, _⟩ := f2.cells (by omega)
      simp only [Value.slice.injEq] at e1
      obtain ⟨rfl, hnfs, rfl⟩ := e1
      clear hnfs
      have f2' := f2
      rw [show n = fs.length from hfl.symm] at f2'
      have hrm := f2'.move (ok' := fun _ => True) (W' := wr) fun c _ hc => ⟨trivial, hA2w.block c hc⟩
      obtain ⟨⟨xn, xv, xl, xf⟩, hx⟩ : ∃ x, fs[k]? = some x := ⟨_, List.getElem?_eq_getElem (by omega)⟩
      obtain ⟨a0, a1, a2, a3, a4, a5⟩ := hrm.fl hx
      have hlx := (f3 _ (List.mem_of_getElem? hx)).below hA2w
      simp only at a0 a1 a2 a3 a4 a5 hlx
      obtain ⟨bl, dl, bf, df, rfl, rfl⟩ := hlx.slices
      have zk : (k : Int) < (n : Int) := by omega
      have hnk := names_part xs (k + 1)
      have hnl := names_len hord hnv
      cases turn
      · have hxs' : xs = v.fields := hxs
        have hxp : xs[k]? = some (xn, xv) := by rw [hxs', ← f1, List.getElem?_map, hx]; rfl
        have hst := names_take hxp
        obtain ⟨⟨i, hi⟩, hn2⟩ := (hord.facts hnv).1 _ (List.mem_of_getElem? hxp)
        have hxz : xn.size ≤ 1 := by rw [show xn = nameAt i from hi]; exact nameAt_size i
        obtain ⟨O, hO⟩ : ∃ O, O = Obj.cells #[.string xn, .int .i64 xv.kind, .int .i64 xv.num, .string xv.text, .slice bl xv.list.length dl, .slice bf xv.fields.length df] 52 := ⟨_, rfl⟩
        have hAr : Below wr.heap.size wr (wr.alloc O) := (Below.refl _ _).alloc (Nat.le_refl _) _
        obtain ⟨P, hP⟩ : ∃ P : ByteArray, (⟨(printV 3 xv).toArray⟩ : ByteArray) = P := ⟨_, rfl⟩
        have hPl : P.data.toList = printV 3 xv := by rw [← hP]
        have hpl : (printV 3 xv).length ≤ bnd 2 := print_len 2 xv hn2
        have hPz : P.size ≤ 446 := by rw [size_list hPl]; exact hpl
        have hBw := hB2'.trans (hW.out.mono hB2'.size)
        have hBA := hBw.trans (hAr.mono hBw.size)
        have hprint := fun d os => Calls.regrown_of (w := wr.alloc O) (d := d) (os := os) ((Print_any 2 xv _ _ (Go.Sort.grow (redrawn (wr.alloc O) d) os) (HE.out.below (hBA.trans ((below_regrown _ d os).mono hBA.size))) ((hlx.below hAr).below (below_regrown _ d os)).lies (nice_fit 2 xv hn2) (Nat.le_trans hpl (by decide))).mono fun e w' h => (show e = .returned (.string P) ∧ _ from ⟨by rw [h.1, ← hP], h.2⟩))
        have rO : (wr.alloc O).heap[wr.heap.size]? = some (.cells #[.string xn, .int .i64 xv.kind, .int .i64 xv.num, .string xv.text, .slice bl xv.list.length dl, .slice bf xv.fields.length df] 52 (0, 0)) := by rw [heap_alloc_new, hO]
        obtain ⟨g0, g1, g2, g3, g4, g5, gf⟩ := row6 rO
        have G0 := fun d os => below_regrown_cell g0 d os
        have G1 := fun d os => below_regrown_cell g1 d os
        have G2 := fun d os => below_regrown_cell g2 d os
        have G3 := fun d os => below_regrown_cell g3 d os
        have G4 := fun d os => below_regrown_cell g4 d os
        have G5 := fun d os => below_regrown_cell g5 d os
        rw [hO] at G0 G1 G2 G3 G4 G5 hprint
        have H7 := (show Hid _ from And.intro hst (And.intro hi (And.intro hPl (And.intro hO hAr))))
        clear hnv hrv hA2 hB2' hO2 r2 hord hxs f1 f2 f3 hfl hxl hkd hn hrm hx hlx f2' hxs' hxp hst hi hn2 hO hAr hP hPl hpl hBw hBA rO g0 g1 g2 g3 g4 g5 gf hA2w hnk hnl
        by_cases hk0 : k = 0
        · subst hk0
          go_wp2_with fail
          refine wp_region_quiet_below mixed (by kernel_rfl) ?_
          iterate 8 go_big_quiet_step (fail)
          go_big_quiet_step (exact hprint _ _)
          go_big_quiet_step (fail)
          go_big_quiet_step (fail)
          refine wpQuiet_nil ?_
          rintro w5 ⟨⟨dq, osq⟩, hw5⟩
          have H8 := (show Hid _ from And.intro hw5 hw5)
          clear hw5 G0 G1 G2 G3 G4 G5 hprint
          go_wp2_with fail
          go_roundg (n - (0 + 1))
          case measure => omega
          case rel =>
            obtain ⟨hst, hi, hPl, hO, hAr⟩ := H7.out
            have hw5 := H8.out.1
            rw [← hO] at hw5
            have hb5 : Below (wr.alloc O).heap.size (wr.alloc O) w5 := by rw [hw5]; exact below_regrown _ dq osq
            refine ⟨0 + 1, _, by omega, by omega, by go_num, rfl, ?_, (hW.out.trans (hAr.mono hW.out.size)).trans (hb5.mono (Nat.le_trans hW.out.size hAr.size))⟩
            show _ = _
            rw [hst]
            simp only [napp_list, hB.out, hPl]
            unfold fieldB
            rw [show xn = nameAt i from hi, quote_name]
            simp [cm2, namesT, joinB]
        · have zk0 : (0 : Int) < (k : Int) := by omega
          go_wp2_with fail
          refine wp_region_quiet_below mixed (by kernel_rfl) ?_
          iterate 8 go_big_quiet_step (fail)
          go_big_quiet_step (exact hprint _ _)
          go_big_quiet_step (fail)
          go_big_quiet_step (fail)
          refine wpQuiet_nil ?_
          rintro w5 ⟨⟨dq, osq⟩, hw5⟩
          have H8 := (show Hid _ from And.intro hw5 hw5)
          clear hw5 G0 G1 G2 G3 G4 G5 hprint
          go_wp2_with fail
          go_roundg (n - (k + 1))
          case measure => omega
          case rel =>
            obtain ⟨hst, hi, hPl, hO, hAr⟩ := H7.out
            have hw5 := H8.out.1
            rw [← hO] at hw5
            have hb5 : Below (wr.alloc O).heap.size (wr.alloc O) w5 := by rw [hw5]; exact below_regrown _ dq osq
            refine ⟨k + 1, _, by omega, by omega, by go_num, rfl, ?_, (hW.out.trans (hAr.mono hW.out.size)).trans (hb5.mono (Nat.le_trans hW.out.size hAr.size))⟩
            show _ = _
            rw [hst]
            simp only [napp_list, hB.out, hPl]
            unfold fieldB
            rw [show xn = nameAt i from hi, quote_name]
            simp [cm2, hk0]
      · have hxs' : xs = v.fields.reverse := hxs
        obtain ⟨m, hm⟩ : ∃ m : Nat, (n : Int) - 1 - (k : Int) = (m : Int) := ⟨n - 1 - k, by omega⟩
        obtain ⟨⟨yn, yv, yl, yf⟩, hy⟩ : ∃ x, fs[m]? = some x := ⟨_, List.getElem?_eq_getElem (by omega)⟩
        obtain ⟨b0', b1, b2, b3, b4, b5⟩ := hrm.fl hy
        have hb0r : b0 < wr.heap.size := Nat.lt_of_lt_of_le hb0 hA2w.size
        have hly := (f3 _ (List.mem_of_getElem? hy)).below hA2w
        simp only at b0' b1 b2 b3 b4 b5 hly
        obtain ⟨bl', dl', bf', df', rfl, rfl⟩ := hly.slices
        have hxp : xs[k]? = some (yn, yv) := by
          rw [hxs', List.getElem?_reverse (by omega), ← f1, List.length_map, hfl, show n - 1 - k = m by omega, List.getElem?_map, hy]; rfl
        have zm : (m : Int) < (n : Int) := by omega
        have zm0 : (0 : Int) ≤ (m : Int) := by omega
        have hst := names_take hxp
        obtain ⟨⟨i, hi⟩, hn2⟩ := (hord.facts hnv).1 _ (List.mem_of_getElem? hxp)
        have hxz : yn.size ≤ 1 := by rw [show yn = nameAt i from hi]; exact nameAt_size i
        obtain ⟨O, hO⟩ : ∃ O, O = Obj.cells #[.string yn, .int .i64 yv.kind, .int .i64 yv.num, .string yv.text, .slice bl' yv.list.length dl', .slice bf' yv.fields.length df'] 52 := ⟨_, rfl⟩
        have hAr : Below wr.heap.size wr (wr.alloc O) := (Below.refl _ _).alloc (Nat.le_refl _) _
        obtain ⟨P, hP⟩ : ∃ P : ByteArray, (⟨(printV 3 yv).toArray⟩ : ByteArray) = P := ⟨_, rfl⟩
        have hPl : P.data.toList = printV 3 yv := by rw [← hP]
        have hpl : (printV 3 yv).length ≤ bnd 2 := print_len 2 yv hn2
        have hPz : P.size ≤ 446 := by rw [size_list hPl]; exact hpl
        have hBw := hB2'.trans (hW.out.mono hB2'.size)
        have hBA := hBw.trans (hAr.mono hBw.size)
        have hprint := fun d os => Calls.regrown_of (w := wr.alloc O) (d := d) (os := os) ((Print_any 2 yv _ _ (Go.Sort.grow (redrawn (wr.alloc O) d) os) (HE.out.below (hBA.trans ((below_regrown _ d os).mono hBA.size))) ((hly.below hAr).below (below_regrown _ d os)).lies (nice_fit 2 yv hn2) (Nat.le_trans hpl (by decide))).mono fun e w' h => (show e = .returned (.string P) ∧ _ from ⟨by rw [h.1, ← hP], h.2⟩))
        have rO : (wr.alloc O).heap[wr.heap.size]? = some (.cells #[.string yn, .int .i64 yv.kind, .int .i64 yv.num, .string yv.text, .slice bl' yv.list.length dl', .slice bf' yv.fields.length df'] 52 (0, 0)) := by rw [heap_alloc_new, hO]
        obtain ⟨g0, g1, g2, g3, g4, g5, gf⟩ := row6 rO
        have G0 := fun d os => below_regrown_cell g0 d os
        have G1 := fun d os => below_regrown_cell g1 d os
        have G2 := fun d os => below_regrown_cell g2 d os
        have G3 := fun d os => below_regrown_cell g3 d os
        have G4 := fun d os => below_regrown_cell g4 d os
        have G5 := fun d os => below_regrown_cell g5 d os
        rw [hO] at G0 G1 G2 G3 G4 G5 hprint
        have H7 := (show Hid _ from And.intro hst (And.intro hi (And.intro hPl (And.intro hO hAr))))
        clear hnv hrv hA2 hB2' hO2 r2 hord hxs f1 f2 f3 hfl hxl hkd hn hrm hx hlx hly hy f2' hxs' hxp hst hi hn2 hO hAr hP hPl hpl hBw hBA rO g0 g1 g2 g3 g4 g5 gf hA2w hnk hnl
        by_cases hk0 : k = 0
        · subst hk0
          have hm0 : (n : Int) - 1 = (m : Int) := by omega
          clear hm
          go_wp2_with fail
          refine wp_region_quiet_below mixed (by kernel_rfl) ?_
          iterate 8 go_big_quiet_step (fail)
          go_big_quiet_step (exact hprint _ _)
          go_big_quiet_step (fail)
          go_big_quiet_step (fail)
          refine wpQuiet_nil ?_
          rintro w5 ⟨⟨dq, osq⟩, hw5⟩
          have H8 := (show Hid _ from And.intro hw5 hw5)
          clear hw5 G0 G1 G2 G3 G4 G5 hprint
          go_wp2_with fail
          go_roundg (n - (0 + 1))
          case measure => omega
          case rel =>
            obtain ⟨hst, hi, hPl, hO, hAr⟩ := H7.out
            have hw5 := H8.out.1
            rw [← hO] at hw5
            have hb5 : Below (wr.alloc O).heap.size (wr.alloc O) w5 := by rw [hw5]; exact below_regrown _ dq osq
            refine ⟨0 + 1, _, by omega, by omega, by go_num, rfl, ?_, (hW.out.trans (hAr.mono hW.out.size)).trans (hb5.mono (Nat.le_trans hW.out.size hAr.size))⟩
            show _ = _
            rw [hst]
            simp only [napp_list, hB.out, hPl]
            unfold fieldB
            rw [show yn = nameAt i from hi, quote_name]
            simp [cm2, namesT, joinB]
        · have zk0 : (0 : Int) < (k : Int) := by omega
          go_wp2_with fail
          refine wp_region_quiet_below mixed (by kernel_rfl) ?_
          iterate 8 go_big_quiet_step (fail)
          go_big_quiet_step (exact hprint _ _)
          go_big_quiet_step (fail)
          go_big_quiet_step (fail)
          refine wpQuiet_nil ?_
          rintro w5 ⟨⟨dq, osq⟩, hw5⟩
          have H8 := (show Hid _ from And.intro hw5 hw5)
          clear hw5 G0 G1 G2 G3 G4 G5 hprint
          go_wp2_with fail
          go_roundg (n - (k + 1))
          case measure => omega
          case rel =>
            obtain ⟨hst, hi, hPl, hO, hAr⟩ := H7.out
            have hw5 := H8.out.1
            rw [← hO] at hw5
            have hb5 : Below (wr.alloc O).heap.size (wr.alloc O) w5 := by rw [hw5]; exact below_regrown _ dq osq
            refine ⟨k + 1, _, by omega, by omega, by go_num, rfl, ?_, (hW.out.trans (hAr.mono hW.out.size)).trans (hb5.mono (Nat.le_trans hW.out.size hAr.size))⟩
            show _ = _
            rw [hst]
            simp only [napp_list, hB.out, hPl]
            unfold fieldB
            rw [show yn = nameAt i from hi, quote_name]
            simp [cm2, hk0]
    · have zk : ¬ (k : Int) < (n : Int) := by omega
      have hkn : k = n := by omega
      have htk : xs.take k = xs := List.take_of_length_le (by omega)
      have hBl : B.data.toList = namesT xs := by rw [hB.out, htk]
      have hBW := hB2'.trans (hW.out.mono hB2'.size)
      have hps := Parse_any (⟨#[123]⟩ ++ B ++ ⟨#[125]⟩) wr (HE.out.below hBW)
      rw [napp_list, napp_list, hBl, show (⟨#[123]⟩ : ByteArray).data.toList ++ namesT xs ++ (⟨#[125]⟩ : ByteArray).data.toList = 123 :: (namesT xs ++ [125]) from rfl, parse_names hord hnv hkd] at hps
      obtain ⟨u, hu⟩ : ∃ u, canV 4 v = u := ⟨_, rfl⟩
      rw [hu] at hps
      have H3 := (show Hid _ from And.intro hBl (And.intro hBW (And.intro hu (And.intro hA2w rr))))
      clear hnv hrv hA2 hB2' hO2 r2 hord hxs f1 f2 f3 hfl hxl hkd hn hBl hBW hu hA2w rr htk hltr
      go_wp2_with fail
      refine hps.mono ?_
      intro e w4 h4
      obtain ⟨a1, c1, a2, c2, rfl, hr4, hb4⟩ := h4.value
      obtain ⟨hnv, hrv, hA2, hB2', hO2, r2, hord, hxs, f1, f2, f3, hfl, hxl, hkd, hn⟩ := H2.out
      obtain ⟨hBl, hBW, hu, hA2w, rr⟩ := H3.out
      have hB4 := hBW.trans (hb4.mono hBW.size)
      obtain ⟨O4, hO4⟩ : ∃ O, O = Obj.cells #[.int .i64 u.kind, .int .i64 u.num, .string u.text, .slice a1 u.list.length c1, .slice a2 u.fields.length c2] 31 := ⟨_, rfl⟩
      have hA4 : Below w4.heap.size w4 (w4.alloc O4) := (Below.refl _ _).alloc (Nat.le_refl _) _
      have hB4' := hB4.trans (hA4.mono hB4.size)
      have hl24 : Below w2.heap.size w2 w4 := hA2w.trans (hb4.mono hA2w.size)
      have hlv : Lies 16 (w4.alloc O4) v (.slice al v.list.length cl) (.slice af n cf) := (((hrv.le (by decide : 3 ≤ 16)).below hl24).below hA4).lies
      have hlu : Lies 16 (w4.alloc O4) u (.slice a1 u.list.length c1) (.slice a2 u.fields.length c2) := (hr4.below hA4).lies
      have hsm := Same_is (n := 16) (show cmpV (16 + 1) u v = 0 by rw [← hu]; have := can_same 17 3 v hnv; have h2 := (good_cmpV 17).anti (canV 4 v) v; rw [h2, this]; rfl) hlu hlv
      have r4 := (hb4.block _ (lt_of_heap rr)).trans rr
      obtain ⟨k0, k1, k2, k3, k4, kf⟩ := row5 r4
      have hlt4 := lt_of_heap r4
      rw [hO4] at hsm
      have H4 := (show Hid _ from And.intro hB4' (And.intro hO4 (And.intro r4 (And.intro hl24 hA4))))
      clear hps h4 hr4 hb4 hnv hrv hA2 hB2' hO2 r2 hord hxs f1 f2 f3 hfl hxl hkd hn hBl hBW hu hA2w rr hB4 hO4 hA4 hB4' hl24 hlv hlu r4
      go_wp2_with fail
      refine hsm.mono ?_
      rintro e w5 ⟨rfl, hb5⟩
      obtain ⟨hB4', hO4, r4, hl24, hA4⟩ := H4.out
      rw [← hO4] at hb5
      have r5 := (hb5.block _ (by simp; omega)).trans ((hA4.block _ (lt_of_heap r4)).trans r4)
      obtain ⟨p0, p1, p2, p3, p4, pf⟩ := row5 r5
      have hlt5 := lt_of_heap r5
      have hB5 := hB4'.trans (hb5.mono hB4'.size)
      have hl25 : Below w2.heap.size w2 w5 := (hl24.trans (hA4.mono hl24.size)).trans (hb5.mono (Nat.le_trans hl24.size hA4.size))
      by_cases hn0 : n = 0
      · have zn : ((n : Int) == 0) = true := by simp; omega
        have H5 := (show Hid _ from hB5)
        clear hsm hB4' hO4 r4 hl24 hA4 r5 hb5 hB5 hl25 k0 k1 k2 k3 k4 kf
        go_wp2_with fail
        go_ret
        exact ⟨rfl, H5.out⟩
      · have zn : ((n : Int) == 0) = false := by simp; omega
        obtain ⟨hnv, hrv, hA2, hB2', hO2, r2, hord, hxs, f1, f2, f3, hfl, hxl, hkd, hn⟩ := H2.out
        obtain ⟨hBl, hBW, hu, hA2w, rr⟩ := H3.out
        obtain ⟨b0, c', e1, hb0, _, hc1, hc2, _⟩ := f2.cells (by omega)
        simp only [Value.slice.injEq] at e1
        obtain ⟨rfl, _, rfl⟩ := e1
        obtain ⟨⟨xn, xv, xl, xf⟩, hx⟩ : ∃ x, fs[0]? = some x := ⟨_, List.getElem?_eq_getElem (by omega)⟩
        rw [show n = fs.length from hfl.symm] at f2
        obtain ⟨q0, _, _, _, _, _⟩ := (f2.move fun c _ hc => ⟨trivial, hl25.block c hc⟩).fl hx
        simp only at q0
        obtain ⟨r0, hr0⟩ : ∃ r0, v.fields = (xn, xv) :: r0 := by
          rw [← f1]
          cases fs with
          | nil => simp at hx
          | cons y ys => simp at hx; subst hx; exact ⟨ys.map Fl.pair, rfl⟩
        obtain ⟨⟨i, hi⟩, _⟩ := (hnv.inner.2.2.2.2 (xn, xv) (by rw [hr0]; simp))
        have hxz : xn.size ≤ 1 := by rw [show xn = nameAt i from hi]; exact nameAt_size i
        have hpd := Parse_any (⟨#[123]⟩ ++ B ++ ⟨#[44, 34]⟩ ++ xn ++ ⟨#[34, 58, 48, 125]⟩) w5 (HE.out.below hB5)
        have hdp := parse_dup hord hnv hr0
        rw [show ((xn, xv) : ByteArray × V).1 = nameAt i from hi, quote_name] at hdp
        rw [napp_list, napp_list, napp_list, napp_list, hBl, show xn.data.toList = (nameAt i).data.toList by rw [show xn = nameAt i from hi]] at hpd
        rw [show (⟨#[123]⟩ : ByteArray).data.toList ++ namesT xs ++ (⟨#[44, 34]⟩ : ByteArray).data.toList ++ (nameAt i).data.toList ++ (⟨#[34, 58, 48, 125]⟩ : ByteArray).data.toList = 123 :: (namesT xs ++ 44 :: (34 :: ((nameAt i).data.toList ++ [34]) ++ [58, 48, 125])) by simp, hdp] at hpd
        have zn2 : (0 : Int) < (n : Int) := by omega
        have H5 := (show Hid _ from And.intro hB5 hB5)
        clear hsm hB4' hO4 r4 hl24 hA4 r5 hb5 hB5 hl25 k0 k1 k2 k3 k4 kf hnv hrv hA2 hB2' hO2 r2 hord hxs f1 f2 f3 hfl hxl hkd hn hBl hBW hu hA2w rr hx hr0 hi hdp j0 j1 j2 j3 j4 jf
        go_wp2_with fail
        refine hpd.mono ?_
        intro e w6 h6
        obtain ⟨u6, y6, rfl, hx6, hb6⟩ := h6.fault
        have hB6 := H5.out.1.trans (hb6.mono H5.out.1.size)
        obtain ⟨Z, hZ⟩ : ∃ O, O = Obj.cells #[.int .i64 0, .int .i64 0, .string ⟨#[]⟩, .slice none 0 0, .slice none 0 0] 31 := ⟨_, rfl⟩
        have hA6 : Below w6.heap.size w6 (w6.alloc Z) := (Below.refl _ _).alloc (Nat.le_refl _) _
        have hB6' := hB6.trans (hA6.mono hB6.size)
        have hcd := (hx6.below hA6).code (HE.out.below hB6')
        rw [hZ] at hcd
        have H6 := (show Hid _ from And.intro hB6' hZ)
        clear hpd h6 hx6 hb6 hB6 hZ hA6 hB6' p0 p1 p2 p3 p4 pf q0
        go_wp2_with fail
        refine hcd.mono ?_
        rintro e w7 ⟨rfl, hb7⟩
        go_wp2_with fail
        go_ret
        obtain ⟨hB6', hZ⟩ := H6.out
        rw [← hZ] at hb7
        exact ⟨rfl, hB6'.trans (hb7.mono hB6'.size)⟩
end Go.Proofs.YtnkoblhdbccbeaaGreatDoor
