/-
  The program's reader of JSON: the byte ahead, blanks, words. Conditions: as stated (texts of at most 4096 bytes).
-/
import Derived.Test.YtdcaohnaiepllaaGreatDoorJPure
import Derived.Test.YtdcaohnaiepllaaGreatDoorTUnquote
import Derived.Test.YtdcaohnaiepllaaGreatDoorVQ
import Derived.Test.YtdcaohnaiepllaaGreatDoorVMade1
import Derived.Lib.Bytes2
namespace Go.Proofs.YtdcaohnaiepllaaGreatDoor
open Go.RowKit Go.Extern.Stop Go.Stop Go.Extern

/-- all that was there is as it was, but for one block. -/
structure Kept (b : Nat) (w w' : World) : Prop where
  os : w'.os = w.os
  tape : w'.tape = w.tape
  output : w'.output = w.output
  size : w.heap.size ≤ w'.heap.size
  block : ∀ k, k < w.heap.size → k ≠ b → w'.heap[k]? = w.heap[k]?
theorem Kept.refl (b : Nat) (w : World) : Kept b w w := ⟨rfl, rfl, rfl, Nat.le_refl _, fun _ _ _ => rfl⟩
theorem Kept.trans {b : Nat} {x y z : World} (h : Kept b x y) (k : Kept b y z) : Kept b x z :=
  ⟨k.os.trans h.os, k.tape.trans h.tape, k.output.trans h.output, Nat.le_trans h.size k.size, fun i hi hb => (k.block i (Nat.lt_of_lt_of_le hi h.size) hb).trans (h.block i hi hb)⟩
theorem Kept.of_below {b : Nat} {w w' : World} (h : Below w.heap.size w w') : Kept b w w' := ⟨h.os, h.tape, h.output, h.size, fun k hk _ => h.block k hk⟩
theorem Kept.below {b B : Nat} {w w' : World} (h : Kept b w w') (hB : B ≤ b) (hw : B ≤ w.heap.size) : Below B w w' := ⟨h.os, h.tape, h.output, h.size, fun k hk => h.block k (by omega) (by omega)⟩
theorem Kept.set {b o : Nat} {v : Value} (w : World) : Kept b w (w.setCell ⟨b, o, none⟩ v) :=
  ⟨rfl, rfl, rfl, by simp [World.setCell], fun k _ hk => Below.heap_setCell _ _ _ _ hk⟩

/-- what the program finds in its variables. -/
structure JEnv (w : World) : Prop where
  text : TEnv w
  syn : ∃ ev, w.cell? ⟨5, 0, none⟩ = some ev ∧ (ev = .nilIface ∨ ∃ te pe, ev = .iface te pe)
  range : ∃ ev, w.cell? ⟨6, 0, none⟩ = some ev ∧ (ev = .nilIface ∨ ∃ te pe, ev = .iface te pe)
theorem JEnv.below {w w' : World} (h : JEnv w) (hb : Below w.heap.size w w') : JEnv w' := by
  refine ⟨h.text.below hb, ?_, ?_⟩
  · obtain ⟨ev, h1, h2⟩ := h.syn
    exact ⟨ev, (hb.cell (lt_of_cell h1)).trans h1, h2⟩
  · obtain ⟨ev, h1, h2⟩ := h.range
    exact ⟨ev, (hb.cell (lt_of_cell h1)).trans h1, h2⟩

/-- a reader of s that is at k. -/
structure Rd (w0 : World) (b : Nat) (s : ByteArray) (k : Nat) (w : World) : Prop where
  env : JEnv w0
  below : Below w0.heap.size w0 w
  le : w0.heap.size ≤ b
  rd : w.heap[b]? = some (.cells #[.string s, .int .i64 (k : Int)] 55 (0, 0))
  hk : k ≤ s.size
  hs : s.size ≤ 4096
theorem Rd.now {w0 w : World} {b k : Nat} {s : ByteArray} (h : Rd w0 b s k w) : JEnv w := h.env.below h.below
theorem Rd.kept {w0 w w' : World} {b k k' : Nat} {s : ByteArray} (h : Rd w0 b s k w) (hk : Kept b w w') (hr : w'.heap[b]? = some (.cells #[.string s, .int .i64 (k' : Int)] 55 (0, 0))) (hk' : k' ≤ s.size) : Rd w0 b s k' w' :=
  ⟨h.env, h.below.trans (hk.below h.le h.below.size), h.le, hr, hk', h.hs⟩
theorem Rd.same {w0 w w' : World} {b k : Nat} {s : ByteArray} (h : Rd w0 b s k w) (hb : Below w.heap.size w w') : Rd w0 b s k w' :=
  h.kept (Kept.of_below hb) ((hb.block _ (lt_of_heap h.rd)).trans h.rd) h.hk
theorem Rd.cells {w0 w : World} {b k : Nat} {s : ByteArray} (h : Rd w0 b s k w) : w.cell? ⟨b, 0, none⟩ = some (.string s) ∧ w.cell? ⟨b, 1, none⟩ = some (.int .i64 (k : Int)) ∧ w.frozen? ⟨b, 1, none⟩ = false ∧ b < w.heap.size :=
  ⟨cell_of_heap h.rd rfl, cell_of_heap h.rd rfl, (by simp [World.frozen?, h.rd]), lt_of_heap h.rd⟩
theorem Rd.set {w0 w : World} {b k k' : Nat} {s : ByteArray} (h : Rd w0 b s k w) (hk' : k' ≤ s.size) : Rd w0 b s k' (w.setCell ⟨b, 1, none⟩ (.int .i64 (k' : Int))) := by
  refine h.kept (Kept.set w) ?_ hk'
  have := h.rd
  simp [World.setCell, Array.getElem?_modify, this]

theorem hd_at {s : ByteArray} {k : Nat} (h : k < s.size) : ∃ x : UInt8, s[k]'h = x ∧ s.data.toList.drop k = x :: s.data.toList.drop (k + 1) := by
  have hl : k < s.data.toList.length := by rw [← size_list rfl]; exact h
  refine ⟨s[k]'h, rfl, ?_⟩
  rw [drop_cons _ _ hl]
  congr 1
theorem hd_end {s : ByteArray} {k : Nat} (h : ¬ k < s.size) : s.data.toList.drop k = [] := List.drop_eq_nil_of_le (by rw [← size_list rfl]; omega)

set_option maxHeartbeats 1000000 in
theorem peek_any {w0 w : World} {b k : Nat} {s : ByteArray} (R : Rd w0 b s k w) {c : Int} (hc : ((hd (s.data.toList.drop k) : Nat) : Int) = c) :
    Calls Tryz.prog 31 #[.pointer (some ⟨b, 0, none⟩)] w fun e w' => e = .returned (.int .u8 c) ∧ Below w.heap.size w w' := by
  obtain ⟨c0, c1, cf, hb⟩ := R.cells
  have hk := R.hk
  have hs := R.hs
  have C0 := fun d os => below_regrown_cell c0 d os
  have C1 := fun d os => below_regrown_cell c1 d os
  by_cases h : k < s.size
  · obtain ⟨x, hx, hd1⟩ := hd_at h
    have hcx : (x.toNat : Int) = c := by rw [← hc, hd1]; rfl
    have HC := (show Hid _ from hcx)
    have ne : ((k : Int) == (s.size : Int)) = false := by simp; omega
    have z0 : (0 : Int) ≤ (k : Int) := by omega
    have z1 : (k : Int) < (s.size : Int) := by omega
    have HK := (show Hid _ from And.intro hk hs)
    clear R hk hs hd1 hc hcx
    go_enter Tryz.func31, Tryz.ntmps31
    go_wp2_with fail
    refine wp_region_quiet_below mixed (by kernel_rfl) ?_
    iterate 10 go_big_quiet_step (fail)
    refine wpQuiet_nil ?_
    rintro w5 ⟨⟨dq, osq⟩, hw5⟩
    have hb5 : Below w.heap.size w w5 := by rw [hw5]; exact below_regrown w dq osq
    have d0 := (hb5.cell (p := ⟨b, 0, none⟩) hb).trans c0
    have d1 := (hb5.cell (p := ⟨b, 1, none⟩) hb).trans c1
    have C0 := fun d os => below_regrown_cell d0 d os
    have C1 := fun d os => below_regrown_cell d1 d os
    clear hw5 c0 c1 cf
    go_wp2_with fail
    refine wp_region_quiet_below mixed (by kernel_rfl) ?_
    iterate 10 go_big_quiet_step (fail)
    refine wpQuiet_nil ?_
    rintro w6 ⟨⟨dr, osr⟩, hw6⟩
    have hb6 : Below w5.heap.size w5 w6 := by rw [hw6]; exact below_regrown w5 dr osr
    clear hw6
    go_wp2_with fail
    go_ret
    exact ⟨by rw [HC.out]; rfl, hb5.trans (hb6.mono hb5.size)⟩
  · have e0 : c = 0 := by rw [← hc, hd_end h]; rfl
    have eq : ((k : Int) == (s.size : Int)) = true := by simp; omega
    subst e0
    clear R hk hs hc h
    go_enter Tryz.func31, Tryz.ntmps31
    go_wp2_with fail
    refine wp_region_quiet_below mixed (by kernel_rfl) ?_
    iterate 10 go_big_quiet_step (fail)
    refine wpQuiet_nil ?_
    rintro w5 ⟨⟨dq, osq⟩, hw5⟩
    have hb5 : Below w.heap.size w w5 := by rw [hw5]; exact below_regrown w dq osq
    clear hw5
    go_wp2_with fail
    go_ret
    exact ⟨rfl, hb5⟩

theorem jdigit_any (c : Int) (w : World) : Calls Tryz.prog 32 #[.int .u8 c] w fun e w' => e = .returned (.bool (decide (48 ≤ c ∧ c ≤ 57))) ∧ w' = w := by
  by_cases h1 : c < 48
  · have h2 : ¬ 48 ≤ c := by omega
    go_enter Tryz.func32, Tryz.ntmps32
    go_wp2
    go_ret
    exact ⟨by rw [decide_eq_false (by omega)]; rfl, rfl⟩
  · have h2 : 48 ≤ c := by omega
    by_cases h3 : c ≤ 57
    · go_enter Tryz.func32, Tryz.ntmps32
      go_wp2
      go_ret
      simp
    · go_enter Tryz.func32, Tryz.ntmps32
      go_wp2
      go_ret
      exact ⟨by rw [decide_eq_false (fun h => by omega)]; rfl, rfl⟩

theorem skip_hd_bl {b : UInt8} {t : List UInt8} (h : isBl b) : skip (b :: t) = skip t := by simp only [skip, if_pos h]
theorem skip_hd_no {l : List UInt8} {c : Int} (hc : ((hd l : Nat) : Int) = c) (h : ¬ (c = 9 ∨ c = 10 ∨ c = 13 ∨ c = 32)) : skip l = l := by
  cases l with
  | nil => rfl
  | cons b t =>
    have : ((b.toNat : Nat) : Int) = c := hc
    simp only [skip]
    rw [if_neg]
    intro h'
    rcases h' with e | e | e | e <;> omega

set_option maxHeartbeats 1000000 in
theorem blanks_any {w0 w : World} {b k : Nat} {s : ByteArray} (R : Rd w0 b s k w) :
    Calls Tryz.prog 20 #[.pointer (some ⟨b, 0, none⟩)] w fun e w' => e = .returned (.tuple #[]) ∧ Kept b w w' ∧ ∃ k', k ≤ k' ∧ Rd w0 b s k' w' ∧ s.data.toList.drop k' = skip (s.data.toList.drop k) := by
  go_enter Tryz.func20, Tryz.ntmps20
  go_wp2_with fail
  go_loopg [] s.size (fun gg wr => ∃ k', k ≤ k' ∧ s.size - k' ≤ gg ∧ Rd w0 b s k' wr ∧ Kept b w wr ∧ skip (s.data.toList.drop k') = skip (s.data.toList.drop k))
  case atStart => exact ⟨k, Nat.le_refl _, by omega, R, Kept.refl _ _, rfl⟩
  case round =>
    obtain ⟨k', hk, hgg, R', K', hsk⟩ := hrel
    obtain ⟨c, hc⟩ : ∃ c : Int, ((hd (s.data.toList.drop k') : Nat) : Int) = c := ⟨_, rfl⟩
    by_cases hbl : c = 9 ∨ c = 10 ∨ c = 13 ∨ c = 32
    · have hlt : k' < s.size := by
        by_cases h : k' < s.size
        · exact h
        · rw [hd_end h] at hc
          simp only [hd] at hc
          omega
      obtain ⟨x, _, hx⟩ := hd_at hlt
      have hxc : ((x.toNat : Nat) : Int) = c := by rw [← hc, hx]; rfl
      have hsk' : skip (s.data.toList.drop (k' + 1)) = skip (s.data.toList.drop k) := by
        rw [← hsk, hx, skip_hd_bl]
        rcases hbl with e | e | e | e
        · exact .inl (by omega)
        · exact .inr (.inl (by omega))
        · exact .inr (.inr (.inl (by omega)))
        · exact .inr (.inr (.inr (by omega)))
      have hp := peek_any R' hc
      have HS := (show Hid _ from And.intro hsk' (And.intro hk (And.intro hgg hlt)))
      have hw64 : (k' : Int) + 1 ≤ 5000 := by have := R'.hs; omega
      clear hsk hsk' hc hxc hx hk hgg
      rcases hbl with rfl | rfl | rfl | rfl
      all_goals
        go_wp2_with fail
        refine hp.mono ?_
        rintro e w1 ⟨rfl, hb1⟩
        have R1 := R'.same hb1
        have K1 := K'.trans (Kept.of_below hb1)
        obtain ⟨c0, c1, cf, hbl⟩ := R1.cells
        have HR := (show Hid _ from And.intro R1 K1)
        clear hp R' K' R1 K1 hb1
        go_wp2_with fail
        go_roundg (s.size - (k' + 1))
        case measure => have := HS.out; omega
        case rel =>
          obtain ⟨R1, K1⟩ := HR.out
          obtain ⟨hsk', hk, hgg, hlt⟩ := HS.out
          refine ⟨k' + 1, by omega, by omega, ?_, K1.trans (Kept.set _), hsk'⟩
          have := R1.set (k' := k' + 1) (by omega)
          exact this
    · have hsk2 := skip_hd_no hc hbl
      have e9 : (c == 9) = false := by simp; omega
      have e10 : (c == 10) = false := by simp; omega
      have e13 : (c == 13) = false := by simp; omega
      have e32 : (c == 32) = false := by simp; omega
      have hp := peek_any R' hc
      have HS := (show Hid _ from And.intro hsk (And.intro hsk2 (And.intro hk (And.intro R' K'))))
      clear hsk hsk2 hc hk hgg hbl R' K' R
      go_wp2_with fail
      refine hp.mono ?_
      rintro e w1 ⟨rfl, hb1⟩
      go_wp2_with fail
      obtain ⟨hsk, hsk2, hk, R', K'⟩ := HS.out
      refine bodyPost_ret (v := .tuple #[]) (by simp [results, Tryz.results20, go_sem]) rfl ⟨rfl, K'.trans (Kept.of_below hb1), k', hk, R'.same hb1, ?_⟩
      rw [← hsk, hsk2]

set_option maxHeartbeats 1000000 in
theorem take_any {w0 w : World} {b k : Nat} {s : ByteArray} (R : Rd w0 b s k w) (t : ByteArray) (ht : t.size ≤ 100) {p : Bool} (hp : Lib.hasPrefix (s.data.toList.drop k) t.data.toList = p) :
    Calls Tryz.prog 61 #[.pointer (some ⟨b, 0, none⟩), .string t] w fun e w' => e = .returned (.bool p) ∧ Kept b w w' ∧ Rd w0 b s (if p = true then k + t.size else k) w' := by
  obtain ⟨c0, c1, cf, hb⟩ := R.cells
  have hk := R.hk
  have hs := R.hs
  have C0 := fun d os => below_regrown_cell c0 d os
  have C1 := fun d os => below_regrown_cell c1 d os
  have hdl := drop_list (s := s) rfl k
  have hcall := fun d os => Calls.regrown_of ((Tryz.strings_HasPrefix (s.extract k s.size) t (Go.Sort.grow (redrawn w d) os)).mono fun e w' h => (show e = .returned (.bool p) ∧ Below (Go.Sort.grow (redrawn w d) os).heap.size (Go.Sort.grow (redrawn w d) os) w' from ⟨by rw [h.1, hdl, hp], by rw [h.2]; exact Below.refl _ _⟩))
  have z0 : (0 : Int) ≤ (k : Int) := by omega
  have z1 : (k : Int) ≤ (s.size : Int) := by omega
  have hw : wrap64 ((k : Int) + (t.size : Int)) = (k : Int) + (t.size : Int) := by unfold wrap64; omega
  have HK := (show Hid _ from And.intro hk (And.intro hs hp))
  have HT := (show Hid _ from ht)
  clear hk hs hp hdl ht
  go_enter Tryz.func61, Tryz.ntmps61
  go_wp2_with fail
  refine wp_region_quiet_below mixed (by kernel_rfl) ?_
  iterate 10 go_big_quiet_step (fail)
  go_big_quiet_step (exact hcall _ _)
  go_big_quiet_step (fail)
  refine wpQuiet_nil ?_
  rintro w5 ⟨⟨dq, osq⟩, hw5⟩
  have hb5 : Below w.heap.size w w5 := by rw [hw5]; exact below_regrown w dq osq
  have R5 := R.same hb5
  clear hw5 hcall C0 C1 c0 c1 cf hb R
  obtain ⟨d0, d1, df, hd⟩ := R5.cells
  have HR := (show Hid _ from R5)
  clear R5
  cases p
  · go_wp2_with fail
    go_ret
    exact ⟨rfl, Kept.of_below hb5, HR.out⟩
  · go_wp2_with fail
    go_ret
    refine ⟨rfl, (Kept.of_below hb5).trans (Kept.set _), ?_⟩
    obtain ⟨hk, hs, hp⟩ := HK.out
    have hle := Lib.hasPrefix_le hp
    rw [List.length_drop, ← size_list (s := s) rfl, ← size_list (s := t) rfl] at hle
    exact HR.out.set (k' := k + t.size) (by omega)

theorem has_one (l : List UInt8) (c : UInt8) (hc : c.toNat ≠ 0) : Lib.hasPrefix l [c] = decide (hd l = c.toNat) := by
  cases l with
  | nil =>
    have : ¬ hd [] = c.toNat := fun h => hc h.symm
    simp [Lib.hasPrefix, List.isPrefixOf, this]
  | cons b t =>
    by_cases h : b.toNat = c.toNat
    · have e : b = c := toNat_inj h
      subst e
      simp [Lib.hasPrefix, List.isPrefixOf, hd]
    · have : ¬ c = b := fun e => h (by rw [e])
      simp [Lib.hasPrefix, List.isPrefixOf, hd, h, this]

/-- what is left behind one sign, if it is taken. -/
def after (p : Bool) (l : List UInt8) : List UInt8 := if p = true then l.drop 1 else l
/-- one sign is taken, if it comes next. -/
theorem take_one {w0 w : World} {b k : Nat} {s : ByteArray} (R : Rd w0 b s k w) (c : UInt8) (hc : c.toNat ≠ 0) {p : Bool} (hp : decide (hd (s.data.toList.drop k) = c.toNat) = p) :
    Calls Tryz.prog 61 #[.pointer (some ⟨b, 0, none⟩), .string ⟨#[c]⟩] w fun e w' => e = .returned (.bool p) ∧ Kept b w w' ∧ ∃ k', Rd w0 b s k' w' ∧ s.data.toList.drop k' = after p (s.data.toList.drop k) := by
  refine (take_any R ⟨#[c]⟩ (by show (1 : Nat) ≤ 100; decide) (p := p) (by rw [← hp]; exact has_one _ c hc)).mono ?_
  rintro e w' ⟨rfl, hk, hR⟩
  refine ⟨rfl, hk, _, hR, ?_⟩
  cases p
  · rfl
  · show s.data.toList.drop (k + 1) = _
    show _ = (s.data.toList.drop k).drop 1
    rw [List.drop_drop]

theorem mark_one {w0 w : World} {b k : Nat} {s : ByteArray} (R : Rd w0 b s k w) (c : UInt8) (hc : c.toNat ≠ 0) {p : Bool} (hp : decide (hd (skip (s.data.toList.drop k)) = c.toNat) = p) :
    Calls Tryz.prog 65 #[.pointer (some ⟨b, 0, none⟩), .string ⟨#[c]⟩] w fun e w' => e = .returned (.bool p) ∧ Kept b w w' ∧ ∃ k', Rd w0 b s k' w' ∧ s.data.toList.drop k' = after p (skip (s.data.toList.drop k)) := by
  have HP := (show Hid _ from hp)
  clear hp
  go_enter Tryz.func65, Tryz.ntmps65
  go_wp2_with fail
  refine (blanks_any R).mono ?_
  rintro e w1 ⟨rfl, K1, k1, hk1, R1, hd1⟩
  have HP1 : decide (hd (s.data.toList.drop k1) = c.toNat) = p := by rw [hd1]; exact HP.out
  have htk := take_one R1 c hc HP1
  rw [hd1] at htk
  clear HP1 hd1
  go_wp2_with fail
  refine htk.mono ?_
  rintro e w2 ⟨rfl, K2, k2, R2, hd2⟩
  go_wp2_with fail
  go_ret
  exact ⟨rfl, K1.trans K2, k2, R2, hd2⟩
end Go.Proofs.YtdcaohnaiepllaaGreatDoor
