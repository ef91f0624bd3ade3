/-
  The program's reader of JSON: numbers, whole. Conditions: as stated (texts of at most 4096 bytes).
  The law's Made by its contract, but for lists and objects. No conditions beyond those stated.
  The law's Made at lists, by its contract. No conditions beyond those stated.
  The program's reader of JSON: what stands behind a thing; lists. Conditions: as stated (texts of at most 4096 bytes).
-/
import Derived.Test.YtnkoblhdbccbeaaGreatDoorU12
import Derived.Test.YtnkoblhdbccbeaaGreatDoorU4
import Derived.Test.YtnkoblhdbccbeaaGreatDoorU8
import Derived.Deep.AppendLies
namespace Go.Proofs.YtnkoblhdbccbeaaGreatDoor
open Go.RowKit Go.Extern.Stop Go.Stop Go.Extern

theorem ParseInt_ok (t : ByteArray) (ht : t.size ≤ 4096) (v : Int) (h : Lib.parseIntB 64 t.data.toList = .ok v) (w : World) :
    Calls Tryz.prog 76 #[.string t, .int .i64 10, .int .i64 64] w fun e w' => e = .returned (.tuple #[.int .i64 v, .nilIface]) ∧ Below w.heap.size w w' := by
  refine (Tryz.strconv_ParseInt_10_at64_ok t (by omega) v h w).mono ?_
  rintro e w' ⟨rfl, hw⟩
  refine ⟨rfl, ?_⟩
  rcases hw with rfl | ⟨t, rfl⟩
  · exact Below.refl _ _
  · exact Lib.bytesWorld_below _ _ _
theorem ParseInt_no (t : ByteArray) (ht : t.size ≤ 4096) (h : ∀ v, Lib.parseIntB 64 t.data.toList ≠ .ok v) (w : World) (hE : JEnv w) :
    Calls Tryz.prog 76 #[.string t, .int .i64 10, .int .i64 64] w fun e w' => ∃ m N, e = .returned (.tuple #[.int .i64 m, .iface 185 (.pointer (some ⟨N, 0, none⟩))]) ∧ Below w.heap.size w w' := by
  cases hp : Lib.parseIntB 64 t.data.toList with
  | ok v => exact absurd hp (h v)
  | «syntax» =>
    obtain ⟨ev, h1, h2⟩ := hE.syn
    refine (Tryz.strconv_ParseInt_10_at64_syntax t (by omega) hp ev w h1 h2).mono ?_
    rintro e w' ⟨N, rfl, _, _, hb⟩
    exact ⟨_, N, rfl, hb⟩
  | range =>
    obtain ⟨ev, h1, h2⟩ := hE.range
    refine (Tryz.strconv_ParseInt_10_at64_range t (by omega) hp ev w h1 h2).mono ?_
    rintro e w' ⟨N, rfl, _, _, hb⟩
    exact ⟨_, N, rfl, hb⟩

set_option maxHeartbeats 4000000 in
theorem number_any {w0 w : World} {b k : Nat} {s : ByteArray} (R : Rd w0 b s k w) :
    Calls Tryz.prog 45 #[.pointer (some ⟨b, 0, none⟩)] w (Ans w0 b s 0 w (numP (s.data.toList.drop k))) := by
  have hB : Below w.heap.size w (w.alloc (.cells #[.int .i64 0, .int .i64 0, .string ⟨#[]⟩, .slice none 0 0, .slice none 0 0] 31)) := (Below.refl _ _).alloc (Nat.le_refl _) _
  have R1 := R.same hB
  obtain ⟨RR, hRR⟩ : ∃ r, numP (s.data.toList.drop k) = r := ⟨_, rfl⟩
  rw [hRR]
  obtain ⟨p, hp⟩ : ∃ p, decide (hd (s.data.toList.drop k) = (45 : UInt8).toNat) = p := ⟨_, rfl⟩
  have htk := take_at R1 45 (by decide) hp
  have hsg : p.toNat = sgn (s.data.toList.drop k) := by
    unfold sgn
    cases p
    · exact (if_neg (show ¬ hd (s.data.toList.drop k) = 45 from of_decide_eq_false hp)).symm
    · exact (if_pos (show hd (s.data.toList.drop k) = 45 from of_decide_eq_true hp)).symm
  have HW := (show Hid _ from And.intro hsg hRR)
  have HR0 := (show Hid _ from R)
  obtain ⟨c0, c1, cf, hb⟩ := R1.cells
  have hne0 : b ≠ w.heap.size := by have := lt_of_heap R.rd; omega
  clear hRR hp R R1 hB hsg
  go_enter Tryz.func45, Tryz.ntmps45
  go_wp2_with fail
  refine htk.mono ?_
  rintro e w1 ⟨rfl, K1, R1⟩
  have hdg := digits_any R1
  obtain ⟨dd, hdd⟩ : ∃ d, digN (s.data.toList.drop (k + p.toNat)) = d := ⟨_, rfl⟩
  rw [hdd] at hdg
  have HD := (show Hid _ from hdd)
  have HK1 := (show Hid _ from K1)
  clear htk hdd c0 c1 cf hb K1 hne0 R1
  go_wp2_with fail
  refine hdg.mono ?_
  rintro e w2 ⟨K2, h2⟩
  obtain ⟨r2, K2', hne, hle⟩ := wordRow HR0.out (HK1.out.trans K2)
  clear hdg K2
  cases dd with
  | none =>
    obtain ⟨rfl, k2, R2⟩ := h2
    have hwr := wrongV_any R2 1 rfl
    go_wp2_with fail
    refine hwr.mono ?_
    rintro e w3 ⟨x, rfl, hx, hb3⟩
    obtain ⟨r3, K3'⟩ := wordRow2 K2' r2 (Kept.of_below hb3) hne
    obtain ⟨j0, j1, j2, j3, j4, jf⟩ := row5 r3
    obtain ⟨u, z, rfl⟩ := hx.iface
    have HX := (show Hid _ from And.intro hx (And.intro K3' r3))
    clear hx K3' r3 K2' r2 R2 hb3 hwr
    go_wp2
    obtain ⟨hx, K3', r3⟩ := HX.out
    obtain ⟨hsg, hr⟩ := HW.out
    refine bodyPost_ret (v := .tuple #[zeroA, .iface u z]) (by simp [results, Tryz.results45, go_sem, j0, j1, j2, j3, j4]) rfl (Ans.err hx K3' r3 ?_ 0 1 2 3 4 _ _ _ _ _)
    rw [← hr]
    unfold numP
    rw [← hsg, List.drop_drop, HD.out]
  | some n =>
    obtain ⟨rfl, R2⟩ := h2
    have hval : numP (s.data.toList.drop k) = numEnd (s.data.toList.drop k) (p.toNat + n) := by
      unfold numP
      rw [← HW.out.1, List.drop_drop, HD.out]
    obtain ⟨c, hc⟩ : ∃ c : Int, ((hd (s.data.toList.drop (k + p.toNat + n)) : Nat) : Int) = c := ⟨_, rfl⟩
    have hpk := peek_any R2 hc
    have hc' : ((hd ((s.data.toList.drop k).drop (p.toNat + n)) : Nat) : Int) = c := by rw [List.drop_drop, ← Nat.add_assoc]; exact hc
    have HV := (show Hid _ from And.intro hval hc')
    clear hval hc hc'
    go_wp2_with fail
    refine hpk.mono ?_
    rintro e w3 ⟨rfl, hb3⟩
    obtain ⟨r3, K3'⟩ := wordRow2 K2' r2 (Kept.of_below hb3) hne
    have R3 := R2.same hb3
    clear K2' r2 R2 hb3 hpk
    by_cases hcc : c = 46 ∨ c = 101 ∨ c = 69
    · have hwr := wrongV_any R3 4 rfl
      have HC := (show Hid _ from hcc)
      rcases hcc with rfl | rfl | rfl
      all_goals
        go_wp2_with fail
        refine hwr.mono ?_
        rintro e w4 ⟨x, rfl, hx, hb4⟩
        obtain ⟨r4, K4'⟩ := wordRow2 K3' r3 (Kept.of_below hb4) hne
        obtain ⟨j0, j1, j2, j3, j4, jf⟩ := row5 r4
        obtain ⟨u, z, rfl⟩ := hx.iface
        have HX := (show Hid _ from And.intro hx (And.intro K4' r4))
        clear hx K4' r4 K3' r3 R3 hb4 hwr
        go_wp2
        obtain ⟨hx, K4', r4⟩ := HX.out
        obtain ⟨hsg, hr⟩ := HW.out
        refine bodyPost_ret (v := .tuple #[zeroA, .iface u z]) (by simp [results, Tryz.results45, go_sem, j0, j1, j2, j3, j4]) rfl (Ans.err hx K4' r4 ?_ 0 1 2 3 4 _ _ _ _ _)
        rw [← hr, HV.out.1]
        unfold numEnd
        exact if_pos (by have := HV.out.2; have := HC.out; omega)
    · have e46 : (c == 46) = false := by simp; omega
      have e101 : (c == 101) = false := by simp; omega
      have e69 : (c == 69) = false := by simp; omega
      have hnum : numP (s.data.toList.drop k) = match Lib.parseIntB 64 ((s.data.toList.drop k).take (p.toNat + n)) with | .ok v => .ok (intV v, (s.data.toList.drop k).drop (p.toNat + n)) | _ => .error 4 := by
        rw [HV.out.1]
        unfold numEnd
        exact if_neg (by have := HV.out.2; omega)
      have hk3 := R3.hk
      have hs3 := R3.hs
      obtain ⟨k3, hk3e⟩ : ∃ k3, k + p.toNat + n = k3 := ⟨_, rfl⟩
      rw [hk3e] at R3 hk3
      have hct := cut_list (s := s) rfl k k3
      rw [show k3 - k = p.toNat + n by omega] at hct
      have hz : (s.extract k k3).size ≤ 4096 := by rw [size_list hct, List.length_take, List.length_drop, ← size_list (s := s) rfl]; omega
      rw [← hct] at hnum
      obtain ⟨d0, d1, df, hdb⟩ := R3.cells
      have z0 : (0 : Int) ≤ (k : Int) := by omega
      have z1 : (k : Int) ≤ (k3 : Int) := by omega
      have z2 : (k3 : Int) ≤ (s.size : Int) := by omega
      have hdr : (s.data.toList.drop k).drop (p.toNat + n) = s.data.toList.drop k3 := by rw [List.drop_drop, ← Nat.add_assoc, hk3e]
      have HN := (show Hid _ from And.intro hnum hdr)
      have HX := (show Hid _ from And.intro R3 (And.intro K3' (And.intro r3 (And.intro hne hle))))
      clear hnum hct hk3 hs3 hk3e hdr hcc
      by_cases hok : ∃ v, Lib.parseIntB 64 (s.extract k k3).data.toList = .ok v
      · obtain ⟨v, hv⟩ := hok
        have hpi := fun W (_ : Below w3.heap.size w3 W) => ParseInt_ok _ hz v hv W
        have HVV := (show Hid _ from hv)
        clear hz hv R3 K3' r3 hne hle
        go_wp2_with fail
        go_region_with (go_at_call 76; refine (hpi _ (Below.refl _ _).drew).mono ?_; rintro e w' ⟨rfl, hb'⟩; have HB := (show Hid _ from hb'); clear hb')
        all_goals
          have hb4 : Below w3.heap.size w3 w' := undrew HB.out
          obtain ⟨R3, K3', r3, hne, hle⟩ := HX.out
          obtain ⟨r4, K4'⟩ := wordRow2 K3' r3 (Kept.of_below hb4) hne
          have R4 := R3.same hb4
          obtain ⟨j0, j1, j2, j3, j4, jf⟩ := row5 r4
          have HY := (show Hid _ from And.intro R4 (And.intro K4' (And.intro hne hle)))
          clear R3 K3' r3 hne hle hb4 r4 K4' R4 hpi d0 d1 df hdb
          go_wp2
          obtain ⟨R4, K4', hne, hle⟩ := HY.out
          refine bodyPost_ret (v := .tuple #[.agg #[.int .i64 2, .int .i64 v, .string ⟨#[]⟩, .slice none 0 0, .slice none 0 0], .nilIface]) (by simp [results, Tryz.results45, go_sem, j0, j1, j2, j3, j4]) rfl (Ans.leaf R4 K4' hne hle 2 v ⟨#[]⟩ ?_ 0 1 2 3 4 _ _ _ _ _)
          rw [← HW.out.2, HN.out.1, HVV.out, HN.out.2]
          rfl
      · have hno : ∀ v, Lib.parseIntB 64 (s.extract k k3).data.toList ≠ .ok v := fun v h => hok ⟨v, h⟩
        have hpi := fun W (hW : Below w3.heap.size w3 W) => ParseInt_no _ hz hno W (R3.now.below hW)
        have HVV := (show Hid _ from hno)
        clear hz hok hno R3 K3' r3 hne hle
        go_wp2_with fail
        go_region_with (go_at_call 76; refine (hpi _ (Below.refl _ _).drew).mono ?_; rintro e w' ⟨m, N, rfl, hb'⟩; have HB := (show Hid _ from hb'); clear hb')
        all_goals
          have hb4 : Below w3.heap.size w3 w' := undrew HB.out
          obtain ⟨R3, K3', r3, hne, hle⟩ := HX.out
          obtain ⟨r4, K4'⟩ := wordRow2 K3' r3 (Kept.of_below hb4) hne
          have R4 := R3.same hb4
          have hwr := wrongV_any R4 4 rfl
          clear R3 K3' r3 hle hb4 hpi d0 d1 df hdb
          go_wp2_with fail
          refine hwr.mono ?_
          rintro e w5 ⟨x, rfl, hx, hb5⟩
          obtain ⟨r5, K5'⟩ := wordRow2 K4' r4 (Kept.of_below hb5) hne
          obtain ⟨j0, j1, j2, j3, j4, jf⟩ := row5 r5
          obtain ⟨u, z, rfl⟩ := hx.iface
          have HZ := (show Hid _ from And.intro hx (And.intro K5' r5))
          clear hx K5' r5 K4' r4 R4 hb5 hwr hne
          go_wp2
          obtain ⟨hx, K5', r5⟩ := HZ.out
          refine bodyPost_ret (v := .tuple #[zeroA, .iface u z]) (by simp [results, Tryz.results45, go_sem, j0, j1, j2, j3, j4]) rfl (Ans.err hx K5' r5 ?_ 0 1 2 3 4 _ _ _ _ _)
          rw [← HW.out.2, HN.out.1]
          split
          · rename_i v hv
            exact absurd hv (HVV.out v)
          · rfl
end Go.Proofs.YtnkoblhdbccbeaaGreatDoor

namespace Go.Proofs.YtnkoblhdbccbeaaGreatDoor
open Go.RowKit

/-- wherever the one slice of bytes lies, the other one does. -/
def Tl (s : Value) (bs : List UInt8) (r : Value) : Prop := ∃ bs', ∀ W, BytesAt W s bs → BytesAt W r bs'
/-- what Made answers: a value, where it lies, and what is left of the bytes. -/
def MadeV (d : Nat) (w w' : World) (s : Value) (bs : List UInt8) (x : V) (l f r : Value) : Prop := Nice d x ∧ Rep (fun k => w.heap.size ≤ k) d w' x l f ∧ Tl s bs r ∧ Below w.heap.size w w'

theorem BytesAt.tail {W : World} {a : Option Addr} {cap : Nat} {u : UInt8} {bs : List UInt8} (h : BytesAt W (.slice a (u :: bs).length cap) (u :: bs)) : ∃ b o, a = some ⟨b, o, none⟩ ∧ W.cell? ⟨b, o, none⟩ = some (.int .u8 u.toNat) ∧ bs.length + 1 ≤ cap ∧ cap ≤ 9223372036854775807 ∧
    BytesAt W (.slice (if cap = 1 then some ⟨b, o, none⟩ else some ⟨b, o + 1, none⟩) bs.length (cap - 1)) bs := by
  obtain ⟨a', cap', h1, h2, h3, h4⟩ := h
  simp only [Value.slice.injEq, true_and] at h1
  obtain ⟨rfl, rfl⟩ := h1
  obtain ⟨b, o, rfl, h6⟩ := h4 (by simp)
  refine ⟨b, o, rfl, by simpa using h6 0 u rfl, by simpa using h2, h3, _, _, rfl, by simp at h2; omega, by omega, fun hne => ?_⟩
  have : ¬ cap = 1 := by
    intro e
    have : bs.length ≠ 0 := fun h => hne (List.length_eq_zero_iff.1 h)
    simp at h2
    omega
  rw [if_neg this]
  refine ⟨b, o + 1, rfl, fun j v hj => ?_⟩
  have := h6 (j + 1) v (by simpa using hj)
  rw [Nat.add_assoc, Nat.add_comm 1 j]
  exact this

theorem Nice.of (d : Nat) (k m : Int) (t : ByteArray) (h1 : 0 ≤ k) (h2 : k ≤ 5) (h3 : I64 m) (h4 : Wd k m t) : Nice d ⟨k, m, t, [], []⟩ := Nice.plain d h1 h2 h3 h4 rfl rfl

set_option maxHeartbeats 1000000 in
theorem Made_empty (d : Nat) (deep : Int) (a : Option Addr) (cap : Nat) (w : World) : Calls Tryz.prog 25 #[.slice a 0 cap, .int .i64 deep] w
    fun e w' => ∃ x l f r, e = .returned (.tuple #[.agg #[.int .i64 x.kind, .int .i64 x.num, .string x.text, l, f], r]) ∧ MadeV d w w' (.slice a 0 cap) [] x l f r := by
  go_enter Tryz.func25, Tryz.ntmps25
  go_wp2
  refine bodyPost_ret (v := .tuple #[.agg #[.int .i64 0, .int .i64 0, .string ⟨#[]⟩, .slice none 0 0, .slice none 0 0], .slice none 0 0]) (by simp [results, Tryz.results25, go_sem]) rfl ⟨⟨0, 0, ⟨#[]⟩, [], []⟩, _, _, _, rfl, Nice.of d _ _ _ (by decide) (by decide) ⟨by decide, by decide⟩ (Wd.no _ _ (by decide)), Rep.le (n := 0) ⟨rfl, rfl, rfl, rfl⟩ (Nat.zero_le _), ⟨[], fun _ _ => ⟨none, 0, rfl, by simp, by omega, fun h => absurd rfl h⟩⟩, (Below.refl _ _).alloc (Nat.le_refl _) _⟩

set_option maxHeartbeats 1000000 in
theorem Made_bool (d : Nat) (deep : Int) (u : UInt8) (bs : List UInt8) (a : Option Addr) (cap : Nat) (w : World) (hb : BytesAt w (.slice a (u :: bs).length cap) (u :: bs)) (hr : (u.toNat : Int) % 6 = 1) : Calls Tryz.prog 25 #[.slice a (u :: bs).length cap, .int .i64 deep] w
    fun e w' => ∃ x l f r, e = .returned (.tuple #[.agg #[.int .i64 x.kind, .int .i64 x.num, .string x.text, l, f], r]) ∧ MadeV d w w' (.slice a (u :: bs).length cap) (u :: bs) x l f r := by
  obtain ⟨b, o, rfl, c0, h1, h2, ht⟩ := hb.tail
  obtain ⟨A, hA⟩ : ∃ A : Option Addr, (if cap = 1 then some (⟨b, o, none⟩ : Addr) else some ⟨b, o + 1, none⟩) = A := ⟨_, rfl⟩
  have hlt := lt_of_cell c0
  have hu : u.toNat < 256 := u.toNat_lt
  obtain ⟨c, hc⟩ : ∃ c : Int, (u.toNat : Int) = c := ⟨_, rfl⟩
  rw [hc] at c0 hr
  have c1 : 0 ≤ c := by omega
  have c2 : c ≤ 255 := by omega
  have HT : Hid (Tl (.slice (some ⟨b, o, none⟩) (u :: bs).length cap) (u :: bs) (.slice A bs.length (cap - 1))) := ⟨bs, fun W hW => by obtain ⟨b', o', e, _, _, _, ht'⟩ := hW.tail; cases e; rw [hA] at ht'; exact ht'⟩
  simp only [List.length_cons]
  clear ht hb hu hc
  go_enter Tryz.func25, Tryz.ntmps25
  go_wp2
  refine bodyPost_ret (v := .tuple #[.agg #[.int .i64 1, .int .i64 (c / 6 % 2), .string ⟨#[]⟩, .slice none 0 0, .slice none 0 0], .slice A bs.length (cap - 1)]) (by simp [results, Tryz.results25, go_sem]) rfl ⟨⟨1, c / 6 % 2, ⟨#[]⟩, [], []⟩, _, _, _, rfl, Nice.of d _ _ _ (by decide) (by decide) ⟨by omega, by omega⟩ ⟨⟨0, rfl⟩, fun _ => by omega⟩, Rep.le (n := 0) ⟨rfl, rfl, rfl, rfl⟩ (Nat.zero_le _), HT.out, (Below.refl _ _).alloc (Nat.le_refl _) _⟩

set_option maxHeartbeats 1000000 in
theorem Made_int (d : Nat) (deep : Int) (u : UInt8) (bs : List UInt8) (a : Option Addr) (cap : Nat) (w : World) (hb : BytesAt w (.slice a (u :: bs).length cap) (u :: bs)) (hr : (u.toNat : Int) % 6 = 2) : Calls Tryz.prog 25 #[.slice a (u :: bs).length cap, .int .i64 deep] w
    fun e w' => ∃ x l f r, e = .returned (.tuple #[.agg #[.int .i64 x.kind, .int .i64 x.num, .string x.text, l, f], r]) ∧ MadeV d w w' (.slice a (u :: bs).length cap) (u :: bs) x l f r := by
  obtain ⟨b, o, rfl, c0, h1, h2, ht⟩ := hb.tail
  obtain ⟨A, hA⟩ : ∃ A : Option Addr, (if cap = 1 then some (⟨b, o, none⟩ : Addr) else some ⟨b, o + 1, none⟩) = A := ⟨_, rfl⟩
  have hlt := lt_of_cell c0
  have hu : u.toNat < 256 := u.toNat_lt
  obtain ⟨c, hc⟩ : ∃ c : Int, (u.toNat : Int) = c := ⟨_, rfl⟩
  rw [hc] at c0 hr
  have c1 : 0 ≤ c := by omega
  have c2 : c ≤ 255 := by omega
  have HT : Hid (Tl (.slice (some ⟨b, o, none⟩) (u :: bs).length cap) (u :: bs) (.slice A bs.length (cap - 1))) := ⟨bs, fun W hW => by obtain ⟨b', o', e, _, _, _, ht'⟩ := hW.tail; cases e; rw [hA] at ht'; exact ht'⟩
  simp only [List.length_cons]
  clear ht hb hu hc
  go_enter Tryz.func25, Tryz.ntmps25
  go_wp2_with fail
  refine (one_any (c / 6) (by omega) (by omega) _).mono ?_
  rintro e w' ⟨m, rfl, hm, rfl⟩
  go_wp2
  refine bodyPost_ret (v := .tuple #[.agg #[.int .i64 2, .int .i64 m, .string ⟨#[]⟩, .slice none 0 0, .slice none 0 0], .slice A bs.length (cap - 1)]) (by simp [results, Tryz.results25, go_sem]) rfl ⟨⟨2, m, ⟨#[]⟩, [], []⟩, _, _, _, rfl, Nice.of d _ _ _ (by decide) (by decide) hm (Wd.no _ _ (by decide)), Rep.le (n := 0) ⟨rfl, rfl, rfl, rfl⟩ (Nat.zero_le _), HT.out, (Below.refl _ _).alloc (Nat.le_refl _) _⟩

set_option maxHeartbeats 1000000 in
theorem Made_text (d : Nat) (deep : Int) (u : UInt8) (bs : List UInt8) (a : Option Addr) (cap : Nat) (w : World) (hb : BytesAt w (.slice a (u :: bs).length cap) (u :: bs)) (hT : Tabs w) (hr : (u.toNat : Int) % 6 = 3) : Calls Tryz.prog 25 #[.slice a (u :: bs).length cap, .int .i64 deep] w
    fun e w' => ∃ x l f r, e = .returned (.tuple #[.agg #[.int .i64 x.kind, .int .i64 x.num, .string x.text, l, f], r]) ∧ MadeV d w w' (.slice a (u :: bs).length cap) (u :: bs) x l f r := by
  obtain ⟨b, o, rfl, c0, h1, h2, ht⟩ := hb.tail
  obtain ⟨A, hA⟩ : ∃ A : Option Addr, (if cap = 1 then some (⟨b, o, none⟩ : Addr) else some ⟨b, o + 1, none⟩) = A := ⟨_, rfl⟩
  have hlt := lt_of_cell c0
  have hu : u.toNat < 256 := u.toNat_lt
  obtain ⟨c, hc⟩ : ∃ c : Int, (u.toNat : Int) = c := ⟨_, rfl⟩
  rw [hc] at c0 hr
  have c1 : 0 ≤ c := by omega
  have c2 : c ≤ 255 := by omega
  have HT : Hid (Tl (.slice (some ⟨b, o, none⟩) (u :: bs).length cap) (u :: bs) (.slice A bs.length (cap - 1))) := ⟨bs, fun W hW => by obtain ⟨b', o', e, _, _, _, ht'⟩ := hW.tail; cases e; rw [hA] at ht'; exact ht'⟩
  simp only [List.length_cons]
  clear ht hb hu hc
  obtain ⟨m, hm⟩ : ∃ m : Nat, c / 6 % 8 = (m : Int) := ⟨(c / 6 % 8).toNat, by omega⟩
  have hm8 : m < 8 := by omega
  have cw := hT.words m hm8
  have hlw := lt_of_cell cw
  have zm : (m : Int) < 8 := by omega
  go_enter Tryz.func25, Tryz.ntmps25
  go_wp2
  refine bodyPost_ret (v := .tuple #[.agg #[.int .i64 3, .int .i64 0, .string (wordAt m), .slice none 0 0, .slice none 0 0], .slice A bs.length (cap - 1)]) (by simp [results, Tryz.results25, go_sem]) rfl ⟨⟨3, 0, wordAt m, [], []⟩, _, _, _, rfl, Nice.of d _ _ _ (by decide) (by decide) ⟨by decide, by decide⟩ ⟨⟨m, rfl⟩, fun e => absurd e (by decide)⟩, Rep.le (n := 0) ⟨rfl, rfl, rfl, rfl⟩ (Nat.zero_le _), HT.out, (Below.refl _ _).alloc (Nat.le_refl _) _⟩

set_option maxHeartbeats 1000000 in
theorem Made_zero (d : Nat) (deep : Int) (u : UInt8) (bs : List UInt8) (a : Option Addr) (cap : Nat) (w : World) (hb : BytesAt w (.slice a (u :: bs).length cap) (u :: bs)) (hr : (u.toNat : Int) % 6 = 0) : Calls Tryz.prog 25 #[.slice a (u :: bs).length cap, .int .i64 deep] w
    fun e w' => ∃ x l f r, e = .returned (.tuple #[.agg #[.int .i64 x.kind, .int .i64 x.num, .string x.text, l, f], r]) ∧ MadeV d w w' (.slice a (u :: bs).length cap) (u :: bs) x l f r := by
  obtain ⟨b, o, rfl, c0, h1, h2, ht⟩ := hb.tail
  obtain ⟨A, hA⟩ : ∃ A : Option Addr, (if cap = 1 then some (⟨b, o, none⟩ : Addr) else some ⟨b, o + 1, none⟩) = A := ⟨_, rfl⟩
  have hlt := lt_of_cell c0
  have hu : u.toNat < 256 := u.toNat_lt
  obtain ⟨c, hc⟩ : ∃ c : Int, (u.toNat : Int) = c := ⟨_, rfl⟩
  rw [hc] at c0 hr
  have c1 : 0 ≤ c := by omega
  have c2 : c ≤ 255 := by omega
  have HT : Hid (Tl (.slice (some ⟨b, o, none⟩) (u :: bs).length cap) (u :: bs) (.slice A bs.length (cap - 1))) := ⟨bs, fun W hW => by obtain ⟨b', o', e, _, _, _, ht'⟩ := hW.tail; cases e; rw [hA] at ht'; exact ht'⟩
  simp only [List.length_cons]
  clear ht hb hu hc
  go_enter Tryz.func25, Tryz.ntmps25
  go_wp2
  refine bodyPost_ret (v := .tuple #[.agg #[.int .i64 0, .int .i64 0, .string ⟨#[]⟩, .slice none 0 0, .slice none 0 0], .slice A bs.length (cap - 1)]) (by simp [results, Tryz.results25, go_sem]) rfl ⟨⟨0, 0, ⟨#[]⟩, [], []⟩, _, _, _, rfl, Nice.of d _ _ _ (by decide) (by decide) ⟨by decide, by decide⟩ (Wd.no _ _ (by decide)), Rep.le (n := 0) ⟨rfl, rfl, rfl, rfl⟩ (Nat.zero_le _), HT.out, (Below.refl _ _).alloc (Nat.le_refl _) _⟩

set_option maxHeartbeats 1000000 in
theorem Made_four (d : Nat) (deep : Int) (u : UInt8) (bs : List UInt8) (a : Option Addr) (cap : Nat) (w : World) (hb : BytesAt w (.slice a (u :: bs).length cap) (u :: bs)) (hd : deep ≤ 1) (hr : (u.toNat : Int) % 6 = 4) : Calls Tryz.prog 25 #[.slice a (u :: bs).length cap, .int .i64 deep] w
    fun e w' => ∃ x l f r, e = .returned (.tuple #[.agg #[.int .i64 x.kind, .int .i64 x.num, .string x.text, l, f], r]) ∧ MadeV d w w' (.slice a (u :: bs).length cap) (u :: bs) x l f r := by
  obtain ⟨b, o, rfl, c0, h1, h2, ht⟩ := hb.tail
  obtain ⟨A, hA⟩ : ∃ A : Option Addr, (if cap = 1 then some (⟨b, o, none⟩ : Addr) else some ⟨b, o + 1, none⟩) = A := ⟨_, rfl⟩
  have hlt := lt_of_cell c0
  have hu : u.toNat < 256 := u.toNat_lt
  obtain ⟨c, hc⟩ : ∃ c : Int, (u.toNat : Int) = c := ⟨_, rfl⟩
  rw [hc] at c0 hr
  have c1 : 0 ≤ c := by omega
  have c2 : c ≤ 255 := by omega
  have HT : Hid (Tl (.slice (some ⟨b, o, none⟩) (u :: bs).length cap) (u :: bs) (.slice A bs.length (cap - 1))) := ⟨bs, fun W hW => by obtain ⟨b', o', e, _, _, _, ht'⟩ := hW.tail; cases e; rw [hA] at ht'; exact ht'⟩
  simp only [List.length_cons]
  clear ht hb hu hc
  have hd1 : ¬ 1 < deep := by omega
  go_enter Tryz.func25, Tryz.ntmps25
  go_wp2
  refine bodyPost_ret (v := .tuple #[.agg #[.int .i64 0, .int .i64 0, .string ⟨#[]⟩, .slice none 0 0, .slice none 0 0], .slice A bs.length (cap - 1)]) (by simp [results, Tryz.results25, go_sem]) rfl ⟨⟨0, 0, ⟨#[]⟩, [], []⟩, _, _, _, rfl, Nice.of d _ _ _ (by decide) (by decide) ⟨by decide, by decide⟩ (Wd.no _ _ (by decide)), Rep.le (n := 0) ⟨rfl, rfl, rfl, rfl⟩ (Nat.zero_le _), HT.out, (Below.refl _ _).alloc (Nat.le_refl _) _⟩

set_option maxHeartbeats 1000000 in
theorem Made_five (d : Nat) (deep : Int) (u : UInt8) (bs : List UInt8) (a : Option Addr) (cap : Nat) (w : World) (hb : BytesAt w (.slice a (u :: bs).length cap) (u :: bs)) (hd : deep ≤ 1) (hr : (u.toNat : Int) % 6 = 5) : Calls Tryz.prog 25 #[.slice a (u :: bs).length cap, .int .i64 deep] w
    fun e w' => ∃ x l f r, e = .returned (.tuple #[.agg #[.int .i64 x.kind, .int .i64 x.num, .string x.text, l, f], r]) ∧ MadeV d w w' (.slice a (u :: bs).length cap) (u :: bs) x l f r := by
  obtain ⟨b, o, rfl, c0, h1, h2, ht⟩ := hb.tail
  obtain ⟨A, hA⟩ : ∃ A : Option Addr, (if cap = 1 then some (⟨b, o, none⟩ : Addr) else some ⟨b, o + 1, none⟩) = A := ⟨_, rfl⟩
  have hlt := lt_of_cell c0
  have hu : u.toNat < 256 := u.toNat_lt
  obtain ⟨c, hc⟩ : ∃ c : Int, (u.toNat : Int) = c := ⟨_, rfl⟩
  rw [hc] at c0 hr
  have c1 : 0 ≤ c := by omega
  have c2 : c ≤ 255 := by omega
  have HT : Hid (Tl (.slice (some ⟨b, o, none⟩) (u :: bs).length cap) (u :: bs) (.slice A bs.length (cap - 1))) := ⟨bs, fun W hW => by obtain ⟨b', o', e, _, _, _, ht'⟩ := hW.tail; cases e; rw [hA] at ht'; exact ht'⟩
  simp only [List.length_cons]
  clear ht hb hu hc
  have hd1 : ¬ 1 < deep := by omega
  go_enter Tryz.func25, Tryz.ntmps25
  go_wp2
  refine bodyPost_ret (v := .tuple #[.agg #[.int .i64 0, .int .i64 0, .string ⟨#[]⟩, .slice none 0 0, .slice none 0 0], .slice A bs.length (cap - 1)]) (by simp [results, Tryz.results25, go_sem]) rfl ⟨⟨0, 0, ⟨#[]⟩, [], []⟩, _, _, _, rfl, Nice.of d _ _ _ (by decide) (by decide) ⟨by decide, by decide⟩ (Wd.no _ _ (by decide)), Rep.le (n := 0) ⟨rfl, rfl, rfl, rfl⟩ (Nat.zero_le _), HT.out, (Below.refl _ _).alloc (Nat.le_refl _) _⟩

end Go.Proofs.YtnkoblhdbccbeaaGreatDoor

namespace Go.Proofs.YtnkoblhdbccbeaaGreatDoor
open Go.RowKit

/-- the elements that were made so far: a list that grows. -/
structure Grows (d : Nat) (W : World) (B : Nat) (s : Value) (es : List El) : Prop where
  own : W.ownsRow (B + 1) 31 5 s es.length (encEs es)
  nice : ∀ e ∈ es, Nice d e.v
  rep : ∀ e ∈ es, Rep (fun b => B < b ∧ s.ownBlock ≠ some b) d W e.v e.l e.f
theorem Grows.move {d B : Nat} {W W' : World} {s : Value} {es : List El} (h : Grows d W B s es) (hm : ∀ b, B < b → b < W.heap.size → W'.heap[b]? = W.heap[b]?) : Grows d W' B s es :=
  ⟨ownsRow_move (fun b hb hl => ⟨(h.own.lt b hb).1, hm b (by have := (h.own.lt b hb).1; omega) hl⟩) h.own, h.nice, fun e he => (h.rep e he).move fun b hb hl => ⟨hb, hm b hb.1 hl⟩⟩
theorem ownsRow_slice {W : World} {base t k n : Nat} {s : Value} {xs : List Value} (h : W.ownsRow base t k s n xs) : ∃ a c, s = .slice a n c := by
  rcases h.2 with ⟨rfl, rfl⟩ | ⟨g, cap, cur, rfl, _⟩
  · exact ⟨_, _, rfl⟩
  · exact ⟨_, _, rfl⟩
theorem Grows.step {d B : Nat} {W3 : World} {sl v' : Value} {es : List El} {x : V} {l f : Value} {W2 : World} (h : Grows d W2 B sl es) (hx : Nice d x) (hrep : Rep (fun b => B < b ∧ sl.ownBlock ≠ some b) d W2 x l f)
    (hown : W3.ownsRow (B + 1) 31 5 v' (es.length + 1) (encEs es ++ [.int .i64 x.kind, .int .i64 x.num, .string x.text, l, f])) (hg : W2.grownBy W3 sl.ownBlock) (hv : sl.ownBlock = v'.ownBlock ∨ v'.ownBlock = some W2.heap.size) : Grows d W3 B v' (es ++ [⟨x, l, f⟩]) := by
  have hm : ∀ b, (B < b ∧ sl.ownBlock ≠ some b) → b < W2.heap.size → (B < b ∧ v'.ownBlock ≠ some b) ∧ W3.heap[b]? = W2.heap[b]? := by
    intro b h1 h2
    refine ⟨⟨h1.1, ?_⟩, hg.block b h2 (fun e => h1.2 e.symm)⟩
    rcases hv with e | e
    · rw [← e]; exact h1.2
    · rw [e]
      intro e2
      have := Option.some.inj e2
      omega
  refine ⟨?_, ?_, ?_⟩
  · rw [encEs_append, List.length_append]; exact hown
  · intro e he
    rcases List.mem_append.1 he with he | he
    · exact h.nice e he
    · rw [List.mem_singleton.1 he]; exact hx
  · intro e he
    rcases List.mem_append.1 he with he | he
    · exact (h.rep e he).move hm
    · rw [List.mem_singleton.1 he]; exact hrep.move hm

/-- Made, so deep. -/
def MakesAt (d : Nat) (D : Int) : Prop := ∀ (W : World) (s : Value) (bs : List UInt8), BytesAt W s bs → Tabs W → Calls Tryz.prog 25 #[s, .int .i64 D] W
  fun e w' => ∃ x l f r, e = .returned (.tuple #[.agg #[.int .i64 x.kind, .int .i64 x.num, .string x.text, l, f], r]) ∧ MadeV d W w' s bs x l f r

set_option maxRecDepth 100000 in
set_option maxHeartbeats 2000000 in
theorem Made_list (d : Nat) (D : Int) (hD : 1 < D) (hD2 : D ≤ 1000) (ih : MakesAt d (D - 1)) (u : UInt8) (bs : List UInt8) (a : Option Addr) (cap : Nat) (w : World) (hb : BytesAt w (.slice a (u :: bs).length cap) (u :: bs)) (hT : Tabs w) (hr : (u.toNat : Int) % 6 = 4) : Calls Tryz.prog 25 #[.slice a (u :: bs).length cap, .int .i64 D] w
    fun e w' => ∃ x l f r, e = .returned (.tuple #[.agg #[.int .i64 x.kind, .int .i64 x.num, .string x.text, l, f], r]) ∧ MadeV (d + 1) w w' (.slice a (u :: bs).length cap) (u :: bs) x l f r := by
  obtain ⟨b, o, rfl, c0, h1, h2, ht⟩ := hb.tail
  obtain ⟨A, hA⟩ : ∃ A : Option Addr, (if cap = 1 then some (⟨b, o, none⟩ : Addr) else some ⟨b, o + 1, none⟩) = A := ⟨_, rfl⟩
  have hlt := lt_of_cell c0
  have hu : u.toNat < 256 := u.toNat_lt
  obtain ⟨c, hc⟩ : ∃ c : Int, (u.toNat : Int) = c := ⟨_, rfl⟩
  rw [hc] at c0 hr
  have c1 : 0 ≤ c := by omega
  have c2 : c ≤ 255 := by omega
  have HT : Hid (Tl (.slice (some ⟨b, o, none⟩) (u :: bs).length cap) (u :: bs) (.slice A bs.length (cap - 1))) := ⟨bs, fun W hW => by obtain ⟨b', o', e, _, _, _, ht'⟩ := hW.tail; cases e; rw [hA] at ht'; exact ht'⟩
  have HB0 : Hid (BytesAt w (.slice (some ⟨b, o, none⟩) (u :: bs).length cap) (u :: bs)) := hb
  obtain ⟨m, hm⟩ : ∃ m : Nat, c / 6 % 4 = (m : Int) := ⟨(c / 6 % 4).toNat, by omega⟩
  have hm4 : m ≤ 3 := by omega
  simp only [List.length_cons]
  clear ht hb hu hc
  obtain ⟨i0, hi, hz0, hz1, hz2⟩ := info_parts infoV
  go_enter Tryz.func25, Tryz.ntmps25
  go_wp2
  go_loopg [0, 9, 10, 11] m (fun gg s0 i _ _ wr => ∃ (k : Nat) (es : List El) (sl : Value), k ≤ m ∧ m - k ≤ gg ∧ i = .int .i64 k ∧ es.length = k ∧ Aside (Tl (.slice (some ⟨b, o, none⟩) (u :: bs).length cap) (u :: bs) s0) ∧ Aside (Below w.heap.size w wr ∧ wr.heap[w.heap.size]? = some (.cells #[.int .i64 0, .int .i64 0, .string ⟨#[]⟩, .slice none 0 0, .slice none 0 0] 31 (0, 0)) ∧ wr.heap[w.heap.size + 1]? = some (.cells #[.int .i64 4, .int .i64 0, .string ⟨#[]⟩, sl, .slice none 0 0] 31 (0, 0)) ∧ Grows d wr (w.heap.size + 1) sl es))
  case atStart =>
    refine ⟨0, [], .slice none 0 0, Nat.zero_le _, by omega, rfl, rfl, HT.out, ((Below.refl _ _).alloc (Nat.le_refl _) _).alloc (by simp) _, heap_alloc2_old, heap_alloc2_new, ⟨World.ownsRow_nil _ _ _ _, fun e he => (by cases he), fun e he => (by cases he)⟩⟩
  case round =>
    obtain ⟨k, es, sl, hk, hgg, rfl, rfl, HB, R⟩ := hrel
    obtain ⟨hB, hrow0, hrow1, hG⟩ := R.out
    obtain ⟨al, cl, rfl⟩ := ownsRow_slice hG.own
    obtain ⟨bs', hbs'⟩ := HB.out
    have hbs1 := hbs' wr (HB0.out.below hB)
    by_cases hlt' : es.length < m
    · have zk : (es.length : Int) < (m : Int) := by omega
      have hcall := ih wr _ bs' hbs1 (hT.below hB)
      clear ih
      go_wp2_with fail
      refine hcall.mono ?_
      rintro e w1 ⟨x, l, f, r, rfl, hnx, hrx, hrb, hb1⟩
      obtain ⟨bl, dl, bf, df, rfl, rfl⟩ := hrx.slices
      have hrow1' := row_below hb1 hrow1
      have hrow0' := row_below hb1 hrow0
      obtain ⟨k0, k1, k2, k3, k4, kf⟩ := row5 hrow1'
      have hz1' : w.heap.size + 1 < w1.heap.size := lt_of_heap hrow1'
      have hG1 : Grows d w1 (w.heap.size + 1) (.slice al es.length cl) es := hG.move fun b _ hl => hb1.block b hl
      have hB1 : Below w.heap.size w w1 := hB.trans (hb1.mono hB.size)
      obtain ⟨O, hO⟩ : ∃ O, O = Obj.cells #[.int .i64 x.kind, .int .i64 x.num, .string x.text, .slice bl x.list.length dl, .slice bf x.fields.length df] 31 := ⟨_, rfl⟩
      have hG2 : Grows d ((w1.alloc O).alloc O) (w.heap.size + 1) (.slice al es.length cl) es := hG1.move fun b _ hl => by rw [Below.heap_alloc _ _ b (by simp; omega), Below.heap_alloc _ _ b hl]
      have hnews : Aside (∀ j u, [Value.int .i64 x.kind, .int .i64 x.num, .string x.text, .slice bl x.list.length dl, .slice bf x.fields.length df][j]? = some u → ((w1.alloc O).alloc O).cell? ((⟨w1.heap.size + 1, 0, none⟩ : Addr).add j) = some u) := by
        have h : ((w1.alloc O).alloc O).heap[w1.heap.size + 1]? = some O := heap_alloc2_new
        rw [hO] at h ⊢
        exact World.news_of_block h
      have hone : Aside (∀ v ∈ [Value.int .i64 x.kind, .int .i64 x.num, .string x.text, .slice bl x.list.length dl, .slice bf x.fields.length df], v.oneCell' = true) := by
        intro v hv
        simp only [List.mem_cons, List.not_mem_nil, or_false] at hv
        rcases hv with rfl | rfl | rfl | rfl | rfl <;> rfl
      have hown := (show Aside _ from hG2.own)
      have hszz : w1.heap.size + 1 + 1 = ((w1.alloc O).alloc O).heap.size := by simp
      have hR3 : Aside (∀ w3, ((w1.alloc O).alloc O).grownBy w3 (Value.slice al es.length cl).ownBlock → w3.heap[w.heap.size + 1]? = some (.cells #[.int .i64 4, .int .i64 0, .string ⟨#[]⟩, .slice al es.length cl, .slice none 0 0] 31 (0, 0)) ∧ w3.heap[w.heap.size]? = some (.cells #[.int .i64 0, .int .i64 0, .string ⟨#[]⟩, .slice none 0 0, .slice none 0 0] 31 (0, 0))) := by
        intro w3 hgr
        have hne : ∀ b, b < w.heap.size + 1 + 1 → some b ≠ (Value.slice al es.length cl).ownBlock := fun b hb e => by
          have := (hG2.own.lt b e.symm).1
          omega
        have hl0 := lt_of_heap hrow0'
        refine ⟨(hgr.block _ (by simp; omega) (hne _ (by omega))).trans ?_, (hgr.block _ (by simp; omega) (hne _ (by omega))).trans ?_⟩
        · rw [Below.heap_alloc _ _ _ (by simp; omega), Below.heap_alloc _ _ _ (by omega)]; exact hrow1'
        · rw [Below.heap_alloc _ _ _ (by simp; omega), Below.heap_alloc _ _ _ (by omega)]; exact hrow0'
      rw [hO] at hown hnews hszz hR3
      have S := (show Aside _ from And.intro hnx (And.intro hrx (And.intro hrb (And.intro hrow0' (And.intro hrow1' (And.intro hG2 (And.intro hB1 (And.intro (lt_of_heap hrow1) (And.intro hb1 (And.intro hO (And.intro (fun k e => (hG.own.lt k e).2) hbs')))))))))))
      have hsb : w.heap.size + 1 + 1 ≤ w1.heap.size := hz1'
      clear hcall hnx hrx hrb hrow0' hrow1' hG1 hG2 hB1 hb1 hB hrow0 hrow1 hG R HB hO hbs' hbs1
      go_wp2_with (first | (at_builtin; refine wpList_append_lies _ rfl (.tmp 78) (.tmp 80) 28 rfl (w.heap.size + 1 + 1) 31 i0 _ 5 80 Tryz.underlying28 hi hz0 hz1 hz2 rfl (by decide) _ es.length (encEs es) rfl hown.out ⟨w1.heap.size + 1, 0, none⟩ 1 1 [.int .i64 x.kind, .int .i64 x.num, .string x.text, .slice bl x.list.length dl, .slice bf x.fields.length df] rfl rfl hnews.out hone.out (by omega) (by unfold maxLen; omega) (by omega) (by simp; omega) _ rfl ?_; intro g cap' w3 hown3 hgrow3 hlie hlt3; have r3 := (hR3.out w3 hgrow3).1; obtain ⟨m0, m1, m2, m3, m4, mf⟩ := row5 r3; have zz3 : w.heap.size + 1 < w3.heap.size := lt_of_heap r3; have Y := (show Aside _ from And.intro hown3 (And.intro hgrow3 (And.intro hlie r3))); clear hown3 hgrow3 hlie r3))
      go_roundg (m - (es.length + 1))
      case measure => omega
      case rel =>
        obtain ⟨hnx, hrx, hrb, hrow0', hrow1', hG2, hB1, hl1, hb1, hO, hlw, hbs'⟩ := S.out
        obtain ⟨hown3, hgrow3, hlie, r3⟩ := Y.out
        rw [← hO] at hgrow3 hR3
        have q3 := (hR3.out w3 hgrow3).2
        have hB3 : Below w.heap.size w w3 := (((hB1.alloc (by omega) O).alloc (by simp; omega) O).grown hgrow3 (by simp; omega) (fun k e => by have := (hG2.own.lt k e).1; omega))
        have hrx2 : Rep (fun b => w.heap.size + 1 < b ∧ (Value.slice al es.length cl).ownBlock ≠ some b) d ((w1.alloc O).alloc O) x (.slice bl x.list.length dl) (.slice bf x.fields.length df) := hrx.move fun b hb hl => by
          refine ⟨⟨by omega, fun e => ?_⟩, by rw [Below.heap_alloc _ _ b (by simp; omega), Below.heap_alloc _ _ b hl]⟩
          have := hlw b e
          omega
        have hG3 : Grows d w3 (w.heap.size + 1) (.slice (some ⟨g, 0, none⟩) (es.length + 1) cap') (es ++ [⟨x, .slice bl x.list.length dl, .slice bf x.fields.length df⟩]) := by
          refine hG2.step hnx hrx2 hown3 hgrow3 ?_
          rcases hlie with e | e
          · exact .inl e
          · right; show some g = _; rw [e]; simp
        have hne : ∀ b, w.heap.size + 1 < b → (w3.setCell ⟨w.heap.size + 1, 3, none⟩ (.slice (some ⟨g, 0, none⟩) (es.length + 1) cap')).heap[b]? = w3.heap[b]? := fun b hb => heap_setCell_ne _ _ _ (by simp; omega)
        refine ⟨es.length + 1, es ++ [⟨x, .slice bl x.list.length dl, .slice bf x.fields.length df⟩], .slice (some ⟨g, 0, none⟩) (es.length + 1) cap', by omega, by omega, by go_num, by simp, ?_, hB3.setCell (by simp) _, ?_, ?_, hG3.move fun b hb _ => hne b hb⟩
        · obtain ⟨bs2, h2⟩ := hrb
          exact ⟨bs2, fun W hW => h2 W (hbs' W hW)⟩
        · rw [heap_setCell_ne _ _ _ (by simp)]; exact q3
        · exact setCell_row r3 (i := 3) _
    · have zk : ¬ (es.length : Int) < (m : Int) := by omega
      obtain ⟨k0, k1, k2, k3, k4, kf⟩ := row5 hrow1
      obtain ⟨j0, j1, j2, j3, j4, jf⟩ := row5 hrow0
      have hz1' : w.heap.size + 1 < wr.heap.size := lt_of_heap hrow1
      have S := (show Aside _ from And.intro hB hG)
      clear ih hB hrow0 hrow1 hG R hbs' hbs1
      go_wp2
      refine bodyPost_ret (v := .tuple #[.agg #[.int .i64 4, .int .i64 0, .string ⟨#[]⟩, .slice al es.length cl, .slice none 0 0], _]) (by simp [results, Tryz.results25, go_sem, j0, j1, j2, j3, j4]) rfl ⟨⟨4, 0, ⟨#[]⟩, es.map El.v, []⟩, _, _, _, rfl, ?_, ?_, HB.out, ?_⟩
      · obtain ⟨hB, hG⟩ := S.out
        refine ⟨show (0 : Int) ≤ 4 by decide, show (4 : Int) ≤ 5 by decide, ⟨show (-9223372036854775808 : Int) ≤ 0 by decide, show (0 : Int) ≤ 9223372036854775807 by decide⟩, show Wd 4 0 ⟨#[]⟩ from Wd.no _ _ (by decide), by simp; omega, by simp, trivial, fun y hy => ?_, fun p hp => by cases hp⟩
        obtain ⟨e, he, rfl⟩ := List.mem_map.1 hy
        exact hG.nice e he
      · obtain ⟨hB, hG⟩ := S.out
        have hne : ∀ b, w.heap.size < b → (set5W wr w.heap.size 0 1 2 3 4 (.int .i64 4) (.int .i64 0) (.string ⟨#[]⟩) (.slice al es.length cl) (.slice none 0 0)).heap[b]? = wr.heap[b]? := fun b hb => set5W_ne _ _ _ _ _ _ _ _ _ _ _ _ (by omega)
        have hG' := hG.move (W' := set5W wr w.heap.size 0 1 2 3 4 (.int .i64 4) (.int .i64 0) (.string ⟨#[]⟩) (.slice al es.length cl) (.slice none 0 0)) fun b hb _ => hne b (by omega)
        exact ⟨⟨es, rfl, ⟨ownsRow_move (fun b _ _ => ⟨Nat.zero_le _, rfl⟩) hG'.own, by omega, fun b hb => by have := (hG'.own.lt b hb).1; show w.heap.size ≤ b; omega⟩, fun e he => (hG'.rep e he).move fun b hb _ => ⟨by omega, rfl⟩⟩, ⟨[], rfl, RowAt.nil, fun e he => by cases he⟩⟩
      · exact set5W_below S.out.1 (Nat.le_refl _) 0 1 2 3 4 _ _ _ _ _
end Go.Proofs.YtnkoblhdbccbeaaGreatDoor

namespace Go.Proofs.YtnkoblhdbccbeaaGreatDoor
open Go.RowKit Go.Extern.Stop Go.Stop Go.Extern

/-- what is answered behind a thing. -/
def AnsE (w0 : World) (b : Nat) (s : ByteArray) (W : World) (r : Option (Bool × List UInt8)) (e : Ending) (w' : World) : Prop :=
  Kept b W w' ∧
  match r with
  | none => ∃ x, e = .returned (.tuple #[.bool false, x]) ∧ Flt 1 w' x
  | some r => e = .returned (.tuple #[.bool r.1, .nilIface]) ∧ ∃ k', Rd w0 b s k' w' ∧ s.data.toList.drop k' = r.2

set_option maxHeartbeats 1000000 in
theorem ends_any {w0 w : World} {b k : Nat} {s : ByteArray} (R : Rd w0 b s k w) (c : UInt8) (hc : c.toNat ≠ 0) :
    Calls Tryz.prog 79 #[.pointer (some ⟨b, 0, none⟩), .string ⟨#[c]⟩] w (AnsE w0 b s w (endsP c.toNat (s.data.toList.drop k))) := by
  obtain ⟨RR, hRR⟩ : ∃ r, endsP c.toNat (s.data.toList.drop k) = r := ⟨_, rfl⟩
  rw [hRR]
  obtain ⟨p, hp⟩ : ∃ p, decide (hd (skip (s.data.toList.drop k)) = c.toNat) = p := ⟨_, rfl⟩
  have hmk := mark_one R c hc hp
  have HW := (show Hid _ from And.intro hp hRR)
  clear hp hRR R
  go_enter Tryz.func79, Tryz.ntmps79
  go_wp2_with fail
  refine hmk.mono ?_
  rintro e w1 ⟨rfl, K1, k1, R1, hd1⟩
  clear hmk
  cases p
  · have hd1 : s.data.toList.drop k1 = skip (s.data.toList.drop k) := hd1
    obtain ⟨q, hq⟩ : ∃ q, decide (hd (s.data.toList.drop k1) = (44 : UInt8).toNat) = q := ⟨_, rfl⟩
    have htk := take_one R1 44 (by decide) hq
    have HX := (show Hid _ from And.intro hq (And.intro hd1 K1))
    clear hq hd1 K1
    go_wp2_with fail
    refine htk.mono ?_
    rintro e w2 ⟨rfl, K2, k2, R2, hd2⟩
    clear htk R1
    cases q
    · have hfl := fail_any R2 1 rfl
      have HY := (show Hid _ from K2)
      clear R2 K2 hd2
      go_wp2_with fail
      refine hfl.mono ?_
      rintro e w3 ⟨x, rfl, hx, hb3⟩
      obtain ⟨u, z, rfl⟩ := hx.iface
      clear hfl
      go_wp2_with fail
      go_ret2
      obtain ⟨hq, hd1, K1⟩ := HX.out
      obtain ⟨hp, hr⟩ := HW.out
      refine ⟨(K1.trans HY.out).trans (Kept.of_below hb3), ?_⟩
      rw [hd1] at hq
      rw [← hr]
      unfold endsP
      rw [if_neg (of_decide_eq_false hp), if_neg (show ¬ hd (skip (s.data.toList.drop k)) = 44 from of_decide_eq_false hq)]
      exact ⟨_, rfl, hx⟩
    · have HY := (show Hid _ from And.intro R2 (And.intro K2 hd2))
      clear R2 K2 hd2
      go_wp2_with fail
      go_ret2
      obtain ⟨hq, hd1, K1⟩ := HX.out
      obtain ⟨R2, K2, hd2⟩ := HY.out
      obtain ⟨hp, hr⟩ := HW.out
      refine ⟨K1.trans K2, ?_⟩
      rw [hd1] at hq hd2
      rw [← hr]
      unfold endsP
      rw [if_neg (of_decide_eq_false hp), if_pos (show hd (skip (s.data.toList.drop k)) = 44 from of_decide_eq_true hq)]
      exact ⟨rfl, k2, R2, hd2⟩
  · have HX := (show Hid _ from And.intro R1 (And.intro hd1 K1))
    clear R1 hd1 K1
    go_wp2_with fail
    go_ret2
    obtain ⟨R1, hd1, K1⟩ := HX.out
    obtain ⟨hp, hr⟩ := HW.out
    refine ⟨K1, ?_⟩
    rw [← hr]
    unfold endsP
    rw [if_pos (of_decide_eq_true hp)]
    exact ⟨rfl, k1, R1, hd1⟩

/-- a list that grows. -/
structure GrowsJ (d : Nat) (W : World) (B : Nat) (s : Value) (es : List El) : Prop where
  own : W.ownsRow (B + 1) 31 5 s es.length (encEs es)
  rep : ∀ e ∈ es, Rep (fun b => B < b ∧ s.ownBlock ≠ some b) d W e.v e.l e.f
theorem GrowsJ.move {d B : Nat} {W W' : World} {s : Value} {es : List El} (h : GrowsJ d W B s es) (hm : ∀ b, B < b → b < W.heap.size → W'.heap[b]? = W.heap[b]?) : GrowsJ d W' B s es :=
  ⟨ownsRow_move (fun b hb hl => ⟨(h.own.lt b hb).1, hm b (by have := (h.own.lt b hb).1; omega) hl⟩) h.own, fun e he => (h.rep e he).move fun b hb hl => ⟨hb, hm b hb.1 hl⟩⟩
theorem GrowsJ.step {d B : Nat} {W3 : World} {sl v' : Value} {es : List El} {x : V} {l f : Value} {W2 : World} (h : GrowsJ d W2 B sl es) (hrep : Rep (fun b => B < b ∧ sl.ownBlock ≠ some b) d W2 x l f)
    (hown : W3.ownsRow (B + 1) 31 5 v' (es.length + 1) (encEs es ++ [.int .i64 x.kind, .int .i64 x.num, .string x.text, l, f])) (hg : W2.grownBy W3 sl.ownBlock) (hv : sl.ownBlock = v'.ownBlock ∨ v'.ownBlock = some W2.heap.size) : GrowsJ d W3 B v' (es ++ [⟨x, l, f⟩]) := by
  have hm : ∀ b, (B < b ∧ sl.ownBlock ≠ some b) → b < W2.heap.size → (B < b ∧ v'.ownBlock ≠ some b) ∧ W3.heap[b]? = W2.heap[b]? := by
    intro b h1 h2
    refine ⟨⟨h1.1, ?_⟩, hg.block b h2 (fun e => h1.2 e.symm)⟩
    rcases hv with e | e
    · rw [← e]; exact h1.2
    · rw [e]
      intro e2
      have := Option.some.inj e2
      omega
  refine ⟨?_, ?_⟩
  · rw [encEs_append, List.length_append]; exact hown
  · intro e he
    rcases List.mem_append.1 he with he | he
    · exact (h.rep e he).move hm
    · rw [List.mem_singleton.1 he]; exact hrep.move hm

/-- value, so deep. -/
def ValueAt (n : Nat) (D : Int) : Prop := ∀ (w0 : World) (b : Nat) (s : ByteArray) (k : Nat) (w : World), Rd w0 b s k w → Calls Tryz.prog 27 #[.pointer (some ⟨b, 0, none⟩), .int .i64 D] w (Ans w0 b s n w (valueP n (s.data.toList.drop k)))

def lift (r : Except Int (List V × List UInt8)) : Except Int (V × List UInt8) :=
  match r with
  | .error e => .error e
  | .ok r => .ok (listV r.1, r.2)

/-- a list that is being read. -/
structure LSt (w0 : World) (b : Nat) (s : ByteArray) (n : Nat) (w : World) (r : Except Int (V × List UInt8)) (gg : Nat) (p : Bool) (es : List El) (sl : Value) (wr : World) : Prop where
  kept : Kept b w wr
  row0 : wr.heap[w.heap.size]? = some (.cells #[.int .i64 0, .int .i64 0, .string ⟨#[]⟩, .slice none 0 0, .slice none 0 0] 31 (0, 0))
  row1 : wr.heap[w.heap.size + 1]? = some (.cells #[.int .i64 4, .int .i64 0, .string ⟨#[]⟩, sl, .slice none 0 0] 31 (0, 0))
  grows : GrowsJ n wr (w.heap.size + 1) sl es
  st : ∃ k', Rd w0 b s k' wr ∧ es.length ≤ k' ∧ (p = true → r = .ok (listV (es.map El.v), s.data.toList.drop k')) ∧
    (p = false → s.size - k' < gg ∧ ∃ m, (s.data.toList.drop k').length < m ∧ r = lift (elemsP (valueP n) m (es.map El.v) (s.data.toList.drop k')))
end Go.Proofs.YtnkoblhdbccbeaaGreatDoor
