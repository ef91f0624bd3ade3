/-
  JsonBlanks' walk: blanks between the parts of a text make no difference. Conditions: as stated.
-/
import Derived.Test.YtdcaohnaiepllaaGreatDoorJPad4
import Derived.Test.YtdcaohnaiepllaaGreatDoorU15
import Derived.Test.YtdcaohnaiepllaaGreatDoorU16
import Derived.Test.YtdcaohnaiepllaaGreatDoorU17
import Derived.Test.YtdcaohnaiepllaaGreatDoorU8
namespace Go.Proofs.YtdcaohnaiepllaaGreatDoor
open Go.RowKit Go.Extern.Stop Go.Stop Go.Extern

def blk (m : Nat) : List UInt8 := [32, 9, 10, 13].drop m
theorem blk_bls (m : Nat) : Bls (blk m) := fun c hc => by
  have h : c ∈ ([32, 9, 10, 13] : List UInt8) := List.mem_of_mem_drop hc
  simp only [List.mem_cons, List.not_mem_nil, or_false] at h
  rcases h with rfl | rfl | rfl | rfl <;> simp [isBl]
theorem blk_len (m : Nat) : (blk m).length ≤ 4 := by simp [blk]
/-- what is put behind the byte number i. -/
def pdOf (ps : List UInt8) (i : Nat) : List UInt8 := match ps[i % ps.length]? with
  | none => []
  | some u => blk (u.toNat % 4)
theorem pdOf_bls (ps : List UInt8) (i : Nat) : Bls (pdOf ps i) := by
  unfold pdOf
  split
  · exact fun c hc => by cases hc
  · exact blk_bls _
theorem pdOf_len (ps : List UInt8) (i : Nat) : (pdOf ps i).length ≤ 4 := by
  unfold pdOf
  split
  · simp
  · exact blk_len _
def fourB : ByteArray := ⟨#[32, 9, 10, 13]⟩
theorem four_from : ∀ m : Fin 4, (fourB.extract m.val 4).data.toList = blk m.val := by decide +kernel
theorem slice_blk (m : Nat) (h : m < 4) : ∃ B : ByteArray, B.data.toList = blk m ∧ ∀ W : World, (Instr.slice 9 (.string ⟨#[32, 9, 10, 13]⟩) (some (.int .u8 (m : Int))) none none).run Tryz.prog W = .ok (.string B) W := by
  refine ⟨fourB.extract m 4, four_from ⟨m, h⟩, fun W => ?_⟩
  have hz : (((⟨#[32, 9, 10, 13]⟩ : ByteArray).size : Nat) : Int) = 4 := rfl
  rw [run_slice_string_from_if (P := Tryz.prog) W 9 _ .u8 (m : Int) Tryz.underlying9]
  rw [if_pos ⟨by omega, by rw [hz]; omega⟩]
  rfl
theorem jslice (s : ByteArray) (k : Nat) (h : k + 1 ≤ s.size) (W : World) : (Instr.slice 9 (.string s) (some (.int .i64 (k : Int))) (some (.int .i64 ((k : Int) + 1))) none).run Tryz.prog W = .ok (.string (s.extract k (k + 1))) W := by
  rw [run_slice_string (P := Tryz.prog) W 9 s .i64 .i64 _ _ Tryz.underlying9 (by omega) (by omega) (by omega)]
  have e1 : ((k : Int)).toNat = k := by omega
  have e2 : ((k : Int) + 1).toNat = k + 1 := by omega
  rw [e1, e2]
theorem jone_list (s : ByteArray) (k : Nat) (h : k < s.size) : (s.extract k (k + 1)).data.toList = [s[k]] := by
  have e : (s.extract k (k + 1)).data.toList = (s.data.toList.drop k).take 1 := by
    rw [ByteArray.data_extract, Array.toList_extract, List.extract_eq_take_drop, Nat.add_sub_cancel_left]
  have hl : k < s.data.toList.length := by simpa using h
  rw [e, List.drop_eq_getElem_cons hl]
  rfl
theorem jat (s : ByteArray) (k : Nat) (h : k < s.size) : s.data.toList[k]? = some (s[k]'h) := by
  have hl : k < s.data.toList.length := by simpa using h
  rw [List.getElem?_eq_getElem hl]; rfl
theorem japp (a b : ByteArray) : (a ++ b).data.toList = a.data.toList ++ b.data.toList := by simp
structure Rnd (pd : Nat → List UInt8) (P : ByteArray) (k : Nat) (B : ByteArray) (q : Bool) : Prop where
  out : B.data.toList = padL pd 0 false (P.data.toList.take k)
  ins : q = qAll false (P.data.toList.take k)
theorem rnd_next {pd : Nat → List UInt8} {P B B' : ByteArray} {k : Nat} {q q' : Bool} {x : UInt8} (h : Rnd pd P k B q) (hx : P.data.toList[k]? = some x) (hq : qNext q x = q') (tl : List UInt8) (hB : B'.data.toList = B.data.toList ++ ([x] ++ tl)) (ht : (if !q' && opens x then pd k else []) = tl) : Rnd pd P (k + 1) B' q' := by
  have htk : P.data.toList.take (k + 1) = P.data.toList.take k ++ [x] := by rw [List.take_add_one, hx]; rfl
  have hlk : (P.data.toList.take k).length = k := by
    have := (List.getElem?_eq_some_iff.1 hx).1
    rw [List.length_take]; omega
  refine ⟨?_, ?_⟩
  · rw [hB, htk, pad_snoc, hlk, h.out, ← h.ins, hq, ht]
    rfl
  · rw [htk, qAll_append, ← h.ins]
    exact hq.symm

set_option maxRecDepth 100000 in
set_option maxHeartbeats 16000000 in
theorem JsonBlanks_walk (s pds : Value) (bs ps : List UInt8) (W : World) (hb : BytesAt W s bs) (hp : BytesAt W pds ps) (hE : JEnv W ∧ Tabs W) :
    Calls Tryz.prog 4 #[s, pds] W fun e w' => e = .returned (.bool true) ∧ Below W.heap.size W w' := by
  obtain ⟨hE, hT⟩ := hE
  have haw := awake_true W hE
  have hof := fun W' (hW : Below W.heap.size W W') => Of_any s bs W' (hb.below hW) (hT.below hW)
  obtain ⟨sa, sn, sc, rfl⟩ : ∃ a n c, s = .slice a n c := by
    obtain ⟨a, c, e, _⟩ := hb
    exact ⟨_, _, _, e⟩
  obtain ⟨pa, pc, rfl, hpl, hpm, hpcells⟩ : ∃ a c, pds = .slice a ps.length c ∧ ps.length ≤ c ∧ c ≤ 9223372036854775807 ∧ (ps ≠ [] → ∃ b o, a = some ⟨b, o, none⟩ ∧ ∀ (j : Nat) (u : UInt8), ps[j]? = some u → W.cell? ⟨b, o + j, none⟩ = some (.int .u8 u.toNat)) := hp
  have HE := (show Hid _ from And.intro hE hpcells)
  clear hE hT hb hpcells
  go_enter Tryz.func4, Tryz.ntmps4
  go_wp2_with fail
  refine haw.mono ?_
  rintro e w1 ⟨rfl, hb1⟩
  have hof1 := hof w1 hb1
  have H1 := (show Hid _ from hb1)
  clear haw hof hb1
  go_wp2_with fail
  refine hof1.mono ?_
  rintro e w2 ⟨v, l, f, rfl, hnv, hrv, hb2⟩
  obtain ⟨al, cl, af, cf, rfl, rfl⟩ := hrv.slices
  have hB2 := H1.out.trans (hb2.mono H1.out.size)
  obtain ⟨O2, hO2⟩ : ∃ O, O = Obj.cells #[.int .i64 v.kind, .int .i64 v.num, .string v.text, .slice al v.list.length cl, .slice af v.fields.length cf] 31 := ⟨_, rfl⟩
  have hA2 : Below w2.heap.size w2 (w2.alloc O2) := (Below.refl _ _).alloc (Nat.le_refl _) _
  have hB2' := hB2.trans (hA2.mono hB2.size)
  have hlen := print_len 3 v hnv
  have hpr := Print_any 3 v _ _ (w2.alloc O2) (HE.out.1.below hB2') (hrv.below hA2).lies (nice_fit 3 v hnv) (Nat.le_trans hlen (by decide))
  obtain ⟨P, hP⟩ : ∃ P : ByteArray, (⟨(printV 4 v).toArray⟩ : ByteArray) = P := ⟨_, rfl⟩
  rw [show (⟨(printV (3 + 1) v).toArray⟩ : ByteArray) = P from hP, hO2] at hpr
  have r2 : (w2.alloc O2).heap[w2.heap.size]? = some (.cells #[.int .i64 v.kind, .int .i64 v.num, .string v.text, .slice al v.list.length cl, .slice af v.fields.length cf] 31 (0, 0)) := by rw [heap_alloc_new, hO2]
  have hPl : P.data.toList = printV 4 v := by rw [← hP]
  have hPz : P.size ≤ 100000 := by
    have e : P.size = P.data.toList.length := by simp
    rw [e, hPl]
    exact Nat.le_trans hlen (by decide)
  have H2 := (show Hid _ from And.intro hnv (And.intro hrv (And.intro hA2 (And.intro hB2' (And.intro hO2 (And.intro hPl r2))))))
  clear hof1 hnv hrv hb2 hB2 hA2 hB2' hO2 hP hlen r2 hPl
  go_wp2_with fail
  refine hpr.mono ?_
  rintro e w3 ⟨rfl, hb3⟩
  obtain ⟨hnv, hrv, hA2, hB2', hO2, hPl, r2⟩ := H2.out
  rw [← hO2] at hb3
  have hB3 := hB2'.trans (hb3.mono hB2'.size)
  have r3 := (hb3.block _ (lt_of_heap r2)).trans r2
  have H3 := (show Hid _ from And.intro hb3 (And.intro hB3 r3))
  have hesc : Hid (Esc P.data.toList = true) := by show _ = _; rw [hPl]; exact esc_print 3 v hnv
  clear hpr hnv hrv hA2 hB2' hO2 hPl r2 hb3 hB3 r3
  go_wp2_with fail
  go_loopg [7, 8, 9, 10, 11] P.size (fun gg o q i _ _ wr => ∃ (k : Nat) (B : ByteArray) (qq : Bool), k ≤ P.size ∧ P.size - k ≤ gg ∧ i = .int .i64 k ∧ o = .string B ∧ q = .bool qq ∧ B.size ≤ 5 * k ∧ Aside (Rnd (pdOf ps) P k B qq) ∧ Aside (wr = w3))
  case atStart => exact ⟨0, ⟨#[]⟩, false, Nat.zero_le _, by omega, rfl, rfl, rfl, by decide, ⟨rfl, rfl⟩, rfl⟩
  case round =>
    obtain ⟨k, B, qq, hk, hgg, rfl, rfl, rfl, hBz, hR, hW⟩ := hrel
    have hBz2 : B.size ≤ 500000 := by omega
    by_cases hlt : k < P.size
    · have zk : (k : Int) < (P.size : Int) := by omega
      have zk0 : (0 : Int) ≤ (k : Int) := by omega
      have hsl := jslice P k (by omega)
      have hE := jone_list P k hlt
      have hat := jat P k hlt
      obtain ⟨x, hx⟩ : ∃ x, P[k]'hlt = x := ⟨_, rfl⟩
      rw [hx] at hE hat
      have hEz : (P.extract k (k + 1)).size = 1 := by
        rw [size_list hE]; rfl
      obtain ⟨E, hEq⟩ : ∃ E, P.extract k (k + 1) = E := ⟨_, rfl⟩
      rw [hEq] at hE hEz
      simp only [hEq] at hsl
      have HEq := (show Hid _ from hEq)
      clear hEq
      have HX := (show Hid _ from And.intro hE hat)
      clear hE hat
      cases qq
      · by_cases h34 : x = 34
        · subst h34
          go_wp2_with fail
          go_roundg (P.size - (k + 1))
          case measure => omega
          case rel =>
            refine ⟨k + 1, _, true, by omega, by omega, by go_num, rfl, rfl, ?_, rnd_next hR.out HX.out.2 ?_ [] ?_ ?_, hW.out⟩
            · simp only [ByteArray.size_append]; omega
            · rfl
            · rw [japp, HX.out.1]; rfl
            · rfl
        · have e34 : ((x.toNat : Int) == 34) = false := by
            simp only [beq_eq_false_iff_ne, ne_eq]
            intro e
            exact h34 (UInt8.toNat_inj.1 (by have : x.toNat = 34 := by omega
                                             simpa using this))
          have hqn : qNext false x = false := by unfold qNext; rw [if_neg h34]
          have HQ := (show Hid _ from hqn)
          clear hqn
          by_cases hop : opens x = true
          · by_cases hps : ps = []
            · have zl : (ps.length : Int) = 0 := by rw [hps]; rfl
              have hpd : pdOf ps k = [] := by rw [hps]; rfl
              have HP := (show Hid _ from And.intro hpd hop)
              have hx4 : x = 44 ∨ x = 58 ∨ x = 91 ∨ x = 123 := by
                simpa [opens, or_assoc] using hop
              clear hpd hop hps h34
              rcases hx4 with rfl | rfl | rfl | rfl
              · clear e34
                go_wp2_with fail
                go_roundg (P.size - (k + 1))
                case measure => omega
                case rel =>
                  refine ⟨k + 1, _, false, by omega, by omega, by go_num, rfl, rfl, ?_, rnd_next hR.out HX.out.2 ?_ [] ?_ ?_, hW.out⟩
                  · simp only [ByteArray.size_append]; omega
                  · exact HQ.out
                  · rw [japp, HX.out.1]; rfl
                  · rw [HP.out.1]; simp
              · clear e34
                go_wp2_with fail
                go_roundg (P.size - (k + 1))
                case measure => omega
                case rel =>
                  refine ⟨k + 1, _, false, by omega, by omega, by go_num, rfl, rfl, ?_, rnd_next hR.out HX.out.2 ?_ [] ?_ ?_, hW.out⟩
                  · simp only [ByteArray.size_append]; omega
                  · exact HQ.out
                  · rw [japp, HX.out.1]; rfl
                  · rw [HP.out.1]; simp
              · clear e34
                go_wp2_with fail
                go_roundg (P.size - (k + 1))
                case measure => omega
                case rel =>
                  refine ⟨k + 1, _, false, by omega, by omega, by go_num, rfl, rfl, ?_, rnd_next hR.out HX.out.2 ?_ [] ?_ ?_, hW.out⟩
                  · simp only [ByteArray.size_append]; omega
                  · exact HQ.out
                  · rw [japp, HX.out.1]; rfl
                  · rw [HP.out.1]; simp
              · clear e34
                go_wp2_with fail
                go_roundg (P.size - (k + 1))
                case measure => omega
                case rel =>
                  refine ⟨k + 1, _, false, by omega, by omega, by go_num, rfl, rfl, ?_, rnd_next hR.out HX.out.2 ?_ [] ?_ ?_, hW.out⟩
                  · simp only [ByteArray.size_append]; omega
                  · exact HQ.out
                  · rw [japp, HX.out.1]; rfl
                  · rw [HP.out.1]; simp
            · obtain ⟨b0, o0, rfl, hcells⟩ := HE.out.2 hps
              have hl0 : 0 < ps.length := List.length_pos_iff.2 hps
              have zl : (0 : Int) < (ps.length : Int) := by omega
              have zl2 : ¬ (ps.length : Int) = 0 := by omega
              obtain ⟨r, hr⟩ : ∃ r : Nat, k % ps.length = r := ⟨_, rfl⟩
              have hrl : r < ps.length := by rw [← hr]; exact Nat.mod_lt _ hl0
              have hm1 : (k : Int) % (ps.length : Int) = (r : Int) := by rw [← hr]; rfl
              have hm2 : Int.tmod (k : Int) (ps.length : Int) = (r : Int) := by rw [Int.tmod_eq_emod_of_nonneg zk0]; exact hm1
              have zr : (r : Int) < (ps.length : Int) := by omega
              have zr0 : (0 : Int) ≤ (r : Int) := by omega
              obtain ⟨u, hu⟩ : ∃ u, ps[r]? = some u := ⟨_, List.getElem?_eq_getElem hrl⟩
              have hcw := hcells r u hu
              have hcr : wr.cell? ⟨b0, o0 + r, none⟩ = some (.int .u8 u.toNat) := by
                rw [hW.out, H3.out.2.1.cell (lt_of_cell hcw)]
                exact hcw
              obtain ⟨m, hm⟩ : ∃ m : Nat, u.toNat % 4 = m := ⟨_, rfl⟩
              have hmm : (u.toNat : Int) % 4 = (m : Int) := by omega
              obtain ⟨B4, hB4, hsl4⟩ := slice_blk m (by omega)
              have hB4z : B4.size ≤ 4 := by
                have e : B4.size = B4.data.toList.length := by simp
                rw [e, hB4]; exact blk_len m
              have hpd : pdOf ps k = B4.data.toList := by
                unfold pdOf
                rw [hr, hu, hB4]
                show blk (u.toNat % 4) = _
                rw [hm]
              have HP := (show Hid _ from And.intro hpd hop)
              have hx4 : x = 44 ∨ x = 58 ∨ x = 91 ∨ x = 123 := by
                simpa [opens, or_assoc] using hop
              clear hpd hop hps h34 hcells hl0 hr hrl hu hcw hm hB4
              rcases hx4 with rfl | rfl | rfl | rfl
              · clear e34
                go_wp2_with fail
                go_roundg (P.size - (k + 1))
                case measure => omega
                case rel =>
                  refine ⟨k + 1, _, false, by omega, by omega, by go_num, rfl, rfl, ?_, rnd_next hR.out HX.out.2 ?_ B4.data.toList ?_ ?_, hW.out⟩
                  · simp only [ByteArray.size_append]; omega
                  · exact HQ.out
                  · rw [japp, japp, HX.out.1, List.append_assoc]
                  · rw [HP.out.1]; simp [opens]
              · clear e34
                go_wp2_with fail
                go_roundg (P.size - (k + 1))
                case measure => omega
                case rel =>
                  refine ⟨k + 1, _, false, by omega, by omega, by go_num, rfl, rfl, ?_, rnd_next hR.out HX.out.2 ?_ B4.data.toList ?_ ?_, hW.out⟩
                  · simp only [ByteArray.size_append]; omega
                  · exact HQ.out
                  · rw [japp, japp, HX.out.1, List.append_assoc]
                  · rw [HP.out.1]; simp [opens]
              · clear e34
                go_wp2_with fail
                go_roundg (P.size - (k + 1))
                case measure => omega
                case rel =>
                  refine ⟨k + 1, _, false, by omega, by omega, by go_num, rfl, rfl, ?_, rnd_next hR.out HX.out.2 ?_ B4.data.toList ?_ ?_, hW.out⟩
                  · simp only [ByteArray.size_append]; omega
                  · exact HQ.out
                  · rw [japp, japp, HX.out.1, List.append_assoc]
                  · rw [HP.out.1]; simp [opens]
              · clear e34
                go_wp2_with fail
                go_roundg (P.size - (k + 1))
                case measure => omega
                case rel =>
                  refine ⟨k + 1, _, false, by omega, by omega, by go_num, rfl, rfl, ?_, rnd_next hR.out HX.out.2 ?_ B4.data.toList ?_ ?_, hW.out⟩
                  · simp only [ByteArray.size_append]; omega
                  · exact HQ.out
                  · rw [japp, japp, HX.out.1, List.append_assoc]
                  · rw [HP.out.1]; simp [opens]
          · have hop' : opens x = false := by simpa using hop
            have hnx : ¬ x = 44 ∧ ¬ x = 58 ∧ ¬ x = 91 ∧ ¬ x = 123 := by
              simpa [opens, and_assoc, not_or] using hop
            have hne : ∀ n : UInt8, ¬ x = n → ((x.toNat : Int) == (n.toNat : Int)) = false := fun n h => by
              simp only [beq_eq_false_iff_ne, ne_eq]
              intro e
              exact h (UInt8.toNat_inj.1 (by omega))
            have e44 : ((x.toNat : Int) == 44) = false := hne 44 hnx.1
            have e58 : ((x.toNat : Int) == 58) = false := hne 58 hnx.2.1
            have e91 : ((x.toNat : Int) == 91) = false := hne 91 hnx.2.2.1
            have e123 : ((x.toNat : Int) == 123) = false := hne 123 hnx.2.2.2
            have HP := (show Hid _ from hop')
            clear hop hop' hnx hne h34
            have hgo : True := trivial
            · clear hgo
              go_wp2_with fail
              go_roundg (P.size - (k + 1))
              case measure => omega
              case rel =>
                refine ⟨k + 1, _, false, by omega, by omega, by go_num, rfl, rfl, ?_, rnd_next hR.out HX.out.2 ?_ [] ?_ ?_, hW.out⟩
                · simp only [ByteArray.size_append]; omega
                · exact HQ.out
                · rw [japp, HX.out.1]; rfl
                · rw [HP.out]; simp
      · obtain ⟨j, rfl⟩ : ∃ j, k = j + 1 := by
          rcases k with _ | j
          · have := hR.out.ins
            cases this
          · exact ⟨j, rfl⟩
        have zj : (j : Int) < (P.size : Int) := by omega
        have hjlt : j < P.size := by omega
        have zj1 : (0 : Int) < (j : Int) + 1 := by omega
        obtain ⟨y, hy⟩ : ∃ y, P[j]'hjlt = y := ⟨_, rfl⟩
        have haty := jat P j hjlt
        rw [hy] at haty
        by_cases h34 : x = 34
        · have hy92 : ¬ y = 92 := fun e => by
            refine esc_at _ j hesc.out ?_ (by rw [haty, e])
            rw [HX.out.2, h34]
          have e92 : ((y.toNat : Int) == 92) = false := by
            simp only [beq_eq_false_iff_ne, ne_eq]
            intro e
            exact hy92 (UInt8.toNat_inj.1 (by have : y.toNat = 92 := by omega
                                              simpa using this))
          clear hy92 haty
          have hgo : True := trivial
          · subst h34
            clear hgo
            clear hsl
            go_wp2_with fail
            go_roundg (P.size - (j + 1 + 1))
            case measure => omega
            case rel =>
              refine ⟨j + 1 + 1, _, false, by omega, by omega, by go_num, rfl, rfl, ?_, rnd_next hR.out HX.out.2 ?_ [] ?_ ?_, hW.out⟩
              · rw [ByteArray.size_append, HEq.out]; omega
              · rfl
              · rw [japp, HEq.out, HX.out.1]; rfl
              · rfl
        · have e34 : ((x.toNat : Int) == 34) = false := by
            simp only [beq_eq_false_iff_ne, ne_eq]
            intro e
            exact h34 (UInt8.toNat_inj.1 (by have : x.toNat = 34 := by omega
                                             simpa using this))
          have hqn : qNext true x = true := by unfold qNext; rw [if_neg h34]
          have HQ := (show Hid _ from hqn)
          clear hqn haty h34
          by_cases h92 : y = 92
          · have e92 : ((y.toNat : Int) == 92) = true := by rw [h92]; rfl
            clear h92
            rcases j with _ | i
            · have hgo : True := trivial
              · clear hgo
                clear hsl
                go_wp2_with fail
                go_roundg (P.size - (0 + 1 + 1))
                case measure => omega
                case rel =>
                  refine ⟨0 + 1 + 1, _, true, by omega, by omega, by go_num, rfl, rfl, ?_, rnd_next hR.out HX.out.2 ?_ [] ?_ ?_, hW.out⟩
                  · rw [ByteArray.size_append, (show P.extract 1 2 = E from HEq.out)]; omega
                  · exact HQ.out
                  · rw [japp, (show P.extract 1 2 = E from HEq.out), HX.out.1]; rfl
                  · rfl
            · have zi : (i : Int) < (P.size : Int) := by omega
              have hilt : i < P.size := by omega
              have zi2 : ¬ (i : Int) + 1 + 1 < 2 := by omega
              have zi0 : (0 : Int) ≤ (i : Int) := by omega
              obtain ⟨z, hz⟩ : ∃ z, P[i]'hilt = z := ⟨_, rfl⟩
              obtain ⟨eb, heb⟩ : ∃ eb, ((z.toNat : Int) != 92) = eb := ⟨_, rfl⟩
              have hgo : True := trivial
              · clear hgo
                clear hsl
                go_wp2_with fail
                go_roundg (P.size - (i + 1 + 1 + 1))
                case measure => omega
                case rel =>
                  refine ⟨i + 1 + 1 + 1, _, true, by omega, by omega, by go_num, rfl, rfl, ?_, rnd_next hR.out HX.out.2 ?_ [] ?_ ?_, hW.out⟩
                  · rw [ByteArray.size_append, HEq.out]; omega
                  · exact HQ.out
                  · rw [japp, HEq.out, HX.out.1]; rfl
                  · rfl
          · have e92 : ((y.toNat : Int) == 92) = false := by
              simp only [beq_eq_false_iff_ne, ne_eq]
              intro e
              exact h92 (UInt8.toNat_inj.1 (by have : y.toNat = 92 := by omega
                                               simpa using this))
            clear h92
            have hgo : True := trivial
            · clear hgo
              clear hsl
              go_wp2_with fail
              go_roundg (P.size - (j + 1 + 1))
              case measure => omega
              case rel =>
                refine ⟨j + 1 + 1, _, true, by omega, by omega, by go_num, rfl, rfl, ?_, rnd_next hR.out HX.out.2 ?_ [] ?_ ?_, hW.out⟩
                · rw [ByteArray.size_append, HEq.out]; omega
                · exact HQ.out
                · rw [japp, HEq.out, HX.out.1]; rfl
                · rfl
    · have zk : ¬ (k : Int) < (P.size : Int) := by omega
      have htk : P.data.toList.take k = P.data.toList := List.take_of_length_le (by simp; omega)
      obtain ⟨hnv, hrv, hA2, hB2', hO2, hPl, r2⟩ := H2.out
      obtain ⟨hb3, hB3, r3⟩ := H3.out
      have hBl : B.data.toList = padL (pdOf ps) 0 false (printV 4 v) := by rw [hR.out.out, htk, hPl]
      obtain ⟨Q, hQ⟩ : ∃ Q : ByteArray, (⟨#[10, 32]⟩ ++ B ++ ⟨#[9]⟩ : ByteArray) = Q := ⟨_, rfl⟩
      have hQl : Q.data.toList = [10, 32] ++ (padL (pdOf ps) 0 false (printV 4 v) ++ [9]) := by
        rw [← hQ, japp, japp, hBl]; simp
      have hwr := hW.out
      have hps := Parse_any Q wr (by rw [hwr]; exact HE.out.1.below hB3)
      rw [hQl, parse_pad (pdOf ps) (pdOf_bls ps) (pdOf_len ps) v hnv] at hps
      obtain ⟨u, hu⟩ : ∃ u, canV 4 v = u := ⟨_, rfl⟩
      rw [hu] at hps
      rw [← hwr] at hb3 hB3 r3
      have HU := (show Hid _ from And.intro hu (And.intro hb3 (And.intro hB3 (And.intro r3 hQ))))
      clear hwr hu hb3 hB3 r3 hQ hQl hBl htk hnv hrv hA2 hB2' hO2 hPl r2 hR hW
      go_wp2_with fail
      rw [HU.out.2.2.2.2]
      refine hps.mono ?_
      intro e w4 h4
      obtain ⟨a1, c1, a2, c2, rfl, hr4, hb4⟩ := h4.value
      obtain ⟨hnv, hrv, hA2, hB2', hO2, hPl, r2⟩ := H2.out
      obtain ⟨hu, hb3, hB3, r3, -⟩ := HU.out
      have hB4 := hB3.trans (hb4.mono hB3.size)
      obtain ⟨O4, hO4⟩ : ∃ O, O = Obj.cells #[.int .i64 u.kind, .int .i64 u.num, .string u.text, .slice a1 u.list.length c1, .slice a2 u.fields.length c2] 31 := ⟨_, rfl⟩
      have hA4 : Below w4.heap.size w4 (w4.alloc O4) := (Below.refl _ _).alloc (Nat.le_refl _) _
      have hB4' := hB4.trans (hA4.mono hB4.size)
      have hl24 : Below w2.heap.size w2 w4 := (hA2.trans (hb3.mono hA2.size)).trans (hb4.mono (Nat.le_trans hA2.size hb3.size))
      have hlv : Lies 16 (w4.alloc O4) v (.slice al v.list.length cl) (.slice af v.fields.length cf) := (((hrv.le (by decide : 3 ≤ 16)).below hl24).below hA4).lies
      have hlu : Lies 16 (w4.alloc O4) u (.slice a1 u.list.length c1) (.slice a2 u.fields.length c2) := (hr4.below hA4).lies
      have hsm0 := Same_is (n := 16) (show cmpV (16 + 1) v u = 0 by rw [← hu]; exact can_same 17 3 v hnv) hlv hlu
      have r4 := (hb4.block _ (lt_of_heap r3)).trans r3
      obtain ⟨j0, j1, j2, j3, j4, jf⟩ := row5 r4
      have hlt4 := lt_of_heap r4
      rw [hO4] at hsm0
      have H4 := (show Hid _ from And.intro hB4' hO4)
      clear hps h4 hr4 hb4 hnv hrv hA2 hB2' hO2 hPl r2 hb3 hB3 r3 hu hB4 hO4 hA4 hB4' hl24 hlv hlu r4
      go_wp2_with fail
      refine hsm0.mono ?_
      rintro e w5 ⟨rfl, hb5⟩
      have H5 := (show Hid _ from hb5)
      clear hsm0 hb5
      go_wp2_with fail
      go_ret
      obtain ⟨hB4', hO4⟩ := H4.out
      have hb5 := H5.out
      rw [← hO4] at hb5
      exact ⟨rfl, hB4'.trans (hb5.mono hB4'.size)⟩
end Go.Proofs.YtdcaohnaiepllaaGreatDoor
