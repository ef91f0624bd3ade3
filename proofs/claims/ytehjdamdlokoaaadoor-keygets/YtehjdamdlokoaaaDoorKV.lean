/-
  The program's reader of keys: fields, values. Conditions: as stated.
-/
import Derived.Test.YtehjdamdlokoaaaDoorKR
namespace Go.Proofs.YtehjdamdlokoaaaDoor
open Go.RowKit

set_option maxRecDepth 100000 in
set_option maxHeartbeats 4000000 in
theorem field_no (n : Nat) (D : Int) {w0 w : World} {b : Nat} {l : List UInt8} (R : RdK w0 b l w) (h0 : ¬ l.head? = some 1) :
    Calls Tryd.prog 49 #[.pointer (some ⟨b, 0, none⟩), .int .i64 D] w (FldA w0 b w n none) := by
  have F := FdK.begin R
  have ht := take_not1 F.rd h0
  have hB : w.heap.size ≤ w.heap.size := Nat.le_refl _
  have HF := (show Hid _ from F)
  clear R h0 F
  go_enter Tryd.func49, Tryd.ntmps49
  go_wp2_with fail
  refine ht.mono ?_
  rintro e w1 ⟨rfl, hw1⟩
  have F1 := HF.out
  rw [← hw1] at F1
  obtain ⟨j0, j1, j2, j3, j4, j5, jf⟩ := row6 F1.row
  have hlt2 := lt_of_heap F1.row
  have HF1 := (show Hid _ from F1)
  clear ht hw1 HF F1
  go_wp2_with fail
  refine bodyPost_ret (v := .tuple #[.agg #[.string ⟨#[]⟩, .int .i64 0, .int .i64 0, .string ⟨#[]⟩, .slice none 0 0, .slice none 0 0], .bool false]) (by simp [results, Tryd.results49, go_sem, j0, j1, j2, j3, j4, j5]) rfl ?_
  refine ⟨?_, _, _, _, _, rfl⟩
  have hk := HF1.out.kept
  repeat (with_reducible first | exact hk | refine KeptB.setc ?_ (Nat.le_refl _) | refine KeptB.setc ?_ hB | refine KeptB.al ?_)
set_option maxRecDepth 100000 in
set_option maxHeartbeats 4000000 in
theorem field_textless (n : Nat) (D : Int) {w0 w : World} {b : Nat} {r : List UInt8} (R : RdK w0 b (1 :: r) w) (hx : ktextP r = none) :
    Calls Tryd.prog 49 #[.pointer (some ⟨b, 0, none⟩), .int .i64 D] w (FldA w0 b w n none) := by
  have F := FdK.begin R
  have ht := take_yes F.rd 1 rfl
  have hB : w.heap.size ≤ w.heap.size := Nat.le_refl _
  have HX := (show Hid _ from hx)
  have HF := (show Hid _ from F)
  clear R F hx
  go_enter Tryd.func49, Tryd.ntmps49
  go_wp2_with fail
  refine ht.mono ?_
  rintro e w1 ⟨rfl, K1, R1⟩
  have F1 := HF.out.more K1 R1
  have htx := text_any R1
  rw [HX.out] at htx
  have HF1 := (show Hid _ from F1)
  clear ht HF F1 K1 R1
  go_wp2_with fail
  refine htx.mono ?_
  rintro e w2 ⟨K2, h2⟩
  subst h2
  have r2 := K2.mem HF1.out.row (by have := HF1.out.lt; omega)
  obtain ⟨j0, j1, j2, j3, j4, j5, jf⟩ := row6 r2
  have hlt2 := lt_of_heap r2
  have HK := (show Hid _ from HF1.out.kept.trans K2)
  clear htx HF1 K2 r2
  go_wp2_with fail
  refine bodyPost_ret (v := .tuple #[.agg #[.string ⟨#[]⟩, .int .i64 0, .int .i64 0, .string ⟨#[]⟩, .slice none 0 0, .slice none 0 0], .bool false]) (by simp [results, Tryd.results49, go_sem, j0, j1, j2, j3, j4, j5]) rfl ?_
  refine ⟨?_, _, _, _, _, rfl⟩
  have hk := HK.out
  repeat (with_reducible first | exact hk | refine KeptB.setc ?_ (Nat.le_refl _) | refine KeptB.setc ?_ hB | refine KeptB.al ?_)

set_option maxRecDepth 100000 in
set_option maxHeartbeats 4000000 in
theorem field_less (n : Nat) (D : Int) (ih : ∀ (w0 : World) (b : Nat) (l : List UInt8) (w : World), RdK w0 b l w → Calls Tryd.prog 24 #[.pointer (some ⟨b, 0, none⟩), .int .i64 D] w (ValA w0 b w n (valueK n l))) {w0 w : World} {b : Nat} {r nm r2 : List UInt8} (R : RdK w0 b (1 :: r) w) (hx : ktextP r = some (nm, r2)) (hv : valueK n r2 = none) :
    Calls Tryd.prog 49 #[.pointer (some ⟨b, 0, none⟩), .int .i64 D] w (FldA w0 b w n none) := by
  have F := FdK.begin R
  have ht := take_yes F.rd 1 rfl
  have hB : w.heap.size ≤ w.heap.size := Nat.le_refl _
  obtain ⟨P, hP⟩ : ∃ P : ByteArray, (⟨nm.toArray⟩ : ByteArray) = P := ⟨_, rfl⟩
  have HX := (show Hid _ from And.intro hx (And.intro hP (And.intro hv R.below.size)))
  have HF := (show Hid _ from F)
  have HI := (show Hid _ from And.intro ih ih)
  clear R F hx hP hv ih
  go_enter Tryd.func49, Tryd.ntmps49
  go_wp2_with fail
  refine ht.mono ?_
  rintro e w1 ⟨rfl, K1, R1⟩
  have F1 := HF.out.more K1 R1
  have htx := text_any R1
  rw [HX.out.1] at htx
  have HF1 := (show Hid _ from F1)
  clear ht HF F1 K1 R1
  go_wp2_with fail
  refine htx.mono ?_
  rintro e w2 ⟨K2, h2, R2⟩
  simp only [HX.out.2.1] at h2 R2
  subst h2
  have hval := HI.out.1 w0 b r2 w2 R2
  rw [HX.out.2.2.1] at hval
  have F2 := HF1.out.more K2 R2
  have HF2 := (show Hid _ from F2)
  clear htx HF1 K2 R2 HI F2
  go_wp2_with fail
  refine hval.mono ?_
  rintro e w3 ⟨K3, h3⟩
  clear hval
  have hlt0 := HF2.out.lt
  have r3 := K3.mem HF2.out.row (by omega)
  obtain ⟨j0, j1, j2, j3, j4, j5, jf⟩ := row6 r3
  have hlt2 := lt_of_heap r3
  have HK := (show Hid _ from And.intro (HF2.out.kept.trans K3) (lt_of_heap HF2.out.row))
  clear K3 r3 hlt0
  obtain ⟨kk, mm, tt, rfl⟩ := h3
  go_wp2_with fail
  refine bodyPost_ret (v := .tuple #[.agg #[.string P, .int .i64 kk, .int .i64 mm, .string tt, .slice none 0 0, .slice none 0 0], .bool false]) (by simp [results, Tryd.results49, go_sem, j0, j1, j2, j3, j4, j5, hlt2]) rfl ?_
  refine ⟨?_, _, _, _, _, rfl⟩
  have hk := HK.out.1
  repeat (with_reducible first | exact hk | refine KeptB.setc ?_ (Nat.le_refl _) | refine KeptB.setc ?_ hB | refine KeptB.al ?_)

set_option maxRecDepth 100000 in
set_option maxHeartbeats 4000000 in
theorem field_full (n : Nat) (D : Int) (ih : ∀ (w0 : World) (b : Nat) (l : List UInt8) (w : World), RdK w0 b l w → Calls Tryd.prog 24 #[.pointer (some ⟨b, 0, none⟩), .int .i64 D] w (ValA w0 b w n (valueK n l))) {w0 w : World} {b : Nat} {r nm r2 : List UInt8} (R : RdK w0 b (1 :: r) w) (hx : ktextP r = some (nm, r2)) {x : V} {rest : List UInt8} (hv : valueK n r2 = some (x, rest)) :
    Calls Tryd.prog 49 #[.pointer (some ⟨b, 0, none⟩), .int .i64 D] w (FldA w0 b w n (some ((⟨nm.toArray⟩, x), rest))) := by
  have F := FdK.begin R
  have ht := take_yes F.rd 1 rfl
  have hB : w.heap.size ≤ w.heap.size := Nat.le_refl _
  obtain ⟨P, hP⟩ : ∃ P : ByteArray, (⟨nm.toArray⟩ : ByteArray) = P := ⟨_, rfl⟩
  have HX := (show Hid _ from And.intro hx (And.intro hP (And.intro hv R.below.size)))
  have HF := (show Hid _ from F)
  have HI := (show Hid _ from And.intro ih ih)
  clear R F hx hP hv ih
  go_enter Tryd.func49, Tryd.ntmps49
  go_wp2_with fail
  refine ht.mono ?_
  rintro e w1 ⟨rfl, K1, R1⟩
  have F1 := HF.out.more K1 R1
  have htx := text_any R1
  rw [HX.out.1] at htx
  have HF1 := (show Hid _ from F1)
  clear ht HF F1 K1 R1
  go_wp2_with fail
  refine htx.mono ?_
  rintro e w2 ⟨K2, h2, R2⟩
  simp only [HX.out.2.1] at h2 R2
  subst h2
  have hval := HI.out.1 w0 b r2 w2 R2
  rw [HX.out.2.2.1] at hval
  have F2 := HF1.out.more K2 R2
  have HF2 := (show Hid _ from F2)
  clear htx HF1 K2 R2 HI F2
  go_wp2_with fail
  refine hval.mono ?_
  rintro e w3 ⟨K3, h3⟩
  clear hval
  have hlt0 := HF2.out.lt
  have r3 := K3.mem HF2.out.row (by omega)
  obtain ⟨j0, j1, j2, j3, j4, j5, jf⟩ := row6 r3
  have hlt2 := lt_of_heap r3
  have HK := (show Hid _ from And.intro (HF2.out.kept.trans K3) (lt_of_heap HF2.out.row))
  clear K3 r3 hlt0
  obtain ⟨xl, xf, rfl, hrx, R3⟩ := h3
  simp only at hrx R3 ⊢
  obtain ⟨bl, dl, bf, df, rfl, rfl⟩ := hrx.slices
  have H4 := (show Hid _ from And.intro hrx R3)
  clear hrx R3
  go_wp2_with fail
  refine bodyPost_ret (v := .tuple #[.agg #[.string P, .int .i64 x.kind, .int .i64 x.num, .string x.text, .slice bl x.list.length dl, .slice bf x.fields.length df], .bool true]) (by simp [results, Tryd.results49, go_sem, j0, j1, j2, j3, j4, j5, hlt2]) rfl ?_
  rw [HX.out.2.1]
  have hk := HK.out.1
  have hl2 := HK.out.2
  have hlt0 := HF2.out.lt
  have hwb := HX.out.2.2.2
  have hnb : w.heap.size ≠ b := by omega
  have hno : ¬ (w2.heap.size ≤ w.heap.size) := by omega
  have hq := H4.out.1
  have hr := H4.out.2
  refine ⟨?_, _, _, rfl, ?_, ?_⟩
  · repeat (with_reducible first | exact hk | refine KeptB.setc ?_ (Nat.le_refl _) | refine KeptB.setc ?_ hB | refine KeptB.al ?_)
  · refine Rep.move (ok := fun c => w2.heap.size ≤ c) (fun c hc _ => ⟨by show w.heap.size ≤ c; omega, rfl⟩) ?_
    repeat (with_reducible first | exact hq | refine Rep.setc ?_ hno | refine Rep.al ?_)
  · repeat (with_reducible first | exact hr | refine RdK.setc ?_ hnb hwb | refine RdK.al ?_)

set_option maxRecDepth 100000 in
set_option maxHeartbeats 4000000 in
/-- no byte is left. -/
theorem value_nil (n : Nat) (D : Int) {w0 w : World} {b : Nat} (R : RdK w0 b [] w) :
    Calls Tryd.prog 24 #[.pointer (some ⟨b, 0, none⟩), .int .i64 D] w (ValA w0 b w n none) := by
  have hn := next_nil (R.al (o := .cells #[.int .i64 0, .int .i64 0, .string ⟨#[]⟩, .slice none 0 0, .slice none 0 0] 28))
  have hB : w.heap.size ≤ w.heap.size := Nat.le_refl _
  go_enter Tryd.func24, Tryd.ntmps24
  go_wp2_with fail
  refine hn.mono ?_
  rintro e w1 ⟨rfl, hw1⟩
  have r1 : w1.heap[w.heap.size]? = some (.cells #[.int .i64 0, .int .i64 0, .string ⟨#[]⟩, .slice none 0 0, .slice none 0 0] 28 (0, 0)) := by rw [hw1]; exact heap_alloc_new w _
  have hk : KeptB b w w1 := by rw [hw1]; exact (KeptB.refl _ _).al
  obtain ⟨j0, j1, j2, j3, j4, jf⟩ := row5 r1
  have hlt2 := lt_of_heap r1
  have HK := (show Hid _ from hk)
  clear hn hw1 r1 hk R
  go_wp2_with fail
  refine bodyPost_ret (v := .tuple #[.agg #[.int .i64 0, .int .i64 0, .string ⟨#[]⟩, .slice none 0 0, .slice none 0 0], .bool false]) (by simp [results, Tryd.results24, go_sem, j0, j1, j2, j3, j4]) rfl ?_
  refine ⟨?_, _, _, _, rfl⟩
  have hk := HK.out
  repeat (with_reducible first | exact hk | refine KeptB.setc ?_ (Nat.le_refl _) | refine KeptB.setc ?_ hB | refine KeptB.al ?_)
set_option maxRecDepth 100000 in
set_option maxHeartbeats 4000000 in
/-- it stands too deep. -/
theorem value_deep (n : Nat) (D : Int) (hD : 16 < D) {w0 w : World} {b : Nat} {c : UInt8} {r : List UInt8} (R : RdK w0 b (c :: r) w) :
    Calls Tryd.prog 24 #[.pointer (some ⟨b, 0, none⟩), .int .i64 D] w (ValA w0 b w n none) := by
  have hn := next_cons (R.al (o := .cells #[.int .i64 0, .int .i64 0, .string ⟨#[]⟩, .slice none 0 0, .slice none 0 0] 28))
  have hB : w.heap.size ≤ w.heap.size := Nat.le_refl _
  have hlt := R.lt
  obtain ⟨C, hC⟩ : ∃ C : Int, (c.toNat : Int) = C := ⟨_, rfl⟩
  rw [hC] at hn
  clear R hC
  go_enter Tryd.func24, Tryd.ntmps24
  go_wp2_with fail
  refine hn.mono ?_
  rintro e w1 ⟨rfl, K1, R1⟩
  have r1 := K1.mem (heap_alloc_new w _) (by omega)
  obtain ⟨j0, j1, j2, j3, j4, jf⟩ := row5 r1
  have hlt2 := lt_of_heap r1
  have HK := (show Hid _ from (KeptB.refl b w).al.trans K1)
  clear hn K1 R1 r1
  go_wp2_with fail
  refine bodyPost_ret (v := .tuple #[.agg #[.int .i64 0, .int .i64 0, .string ⟨#[]⟩, .slice none 0 0, .slice none 0 0], .bool false]) (by simp [results, Tryd.results24, go_sem, j0, j1, j2, j3, j4]) rfl ?_
  refine ⟨?_, _, _, _, rfl⟩
  have hk := HK.out
  repeat (with_reducible first | exact hk | refine KeptB.setc ?_ (Nat.le_refl _) | refine KeptB.setc ?_ hB | refine KeptB.al ?_)

set_option maxRecDepth 100000 in
set_option maxHeartbeats 4000000 in
theorem value_bare (n : Nat) (D : Int) (hD : D ≤ 16) {w0 w : World} {b : Nat} {c : UInt8} {r : List UInt8} (R : RdK w0 b (c :: r) w) {k : Int} (hk0 : (c.toNat : Int) - 1 = k) (h1 : ¬ k = 1) (h2 : ¬ k = 2) (h3 : ¬ k = 3) (h4 : ¬ k = 4) (h5 : ¬ k = 5) :
    Calls Tryd.prog 24 #[.pointer (some ⟨b, 0, none⟩), .int .i64 D] w (ValA w0 b w n (some (⟨k, 0, ⟨#[]⟩, [], []⟩, r))) := by
  have hn := next_cons (R.al (o := .cells #[.int .i64 0, .int .i64 0, .string ⟨#[]⟩, .slice none 0 0, .slice none 0 0] 28))
  have hlt := R.lt
  have hB0 : w.heap.size ≤ w.heap.size := Nat.le_refl _
  obtain ⟨C, hC⟩ : ∃ C : Int, (c.toNat : Int) = C := ⟨_, rfl⟩
  rw [hC] at hn hk0
  have hc256 := c.toNat_lt
  have e1 : (k == 1) = false := by simpa using h1
  have e2 : (k == 2) = false := by simpa using h2
  have e3 : (k == 3) = false := by simpa using h3
  have e4 : (k == 4) = false := by simpa using h4
  have e5 : (k == 5) = false := by simpa using h5
  have hw : wrap64 (wrap64 C - 1) = k := by unfold wrap64; omega
  have HW := (show Hid _ from R.below.size)
  clear R h1 h2 h3 h4 h5 hC hc256 hk0
  go_enter Tryd.func24, Tryd.ntmps24
  go_wp2_with fail
  refine hn.mono ?_
  rintro e w1 ⟨rfl, K1, R1⟩
  have r1 := K1.mem (heap_alloc_new w _) (by omega)
  obtain ⟨j0, j1, j2, j3, j4, jf⟩ := row5 r1
  have hlt2 := lt_of_heap r1
  have hne : w.heap.size ≠ w1.heap.size := by omega
  have hne2 : w1.heap.size ≠ w.heap.size := by omega
  have HK := (show Hid _ from And.intro ((KeptB.refl b w).al.trans K1) R1)
  clear hn K1 R1 r1
  go_wp2_with fail
  refine bodyPost_ret (v := .tuple #[.agg #[.int .i64 k, .int .i64 0, .string ⟨#[]⟩, .slice none 0 0, .slice none 0 0], .bool true]) (by simp [results, Tryd.results24, go_sem, j0, j1, j2, j3, j4, hlt2]) rfl ?_
  have hB : w.heap.size ≤ w1.heap.size := by omega
  obtain ⟨hk, hr⟩ := HK.out
  have hwb := HW.out
  have hnb : w.heap.size ≠ b := by omega
  refine ⟨?_, _, _, rfl, rep_bare _ _ _ _, ?_⟩
  · repeat (with_reducible first | exact hk | refine KeptB.setc ?_ (Nat.le_refl _) | refine KeptB.setc ?_ hB | refine KeptB.al ?_)
  · repeat (with_reducible first | exact hr | refine RdK.setc ?_ hnb hwb | refine RdK.al ?_)

set_option maxRecDepth 100000 in
set_option maxHeartbeats 4000000 in
theorem value_bool (n : Nat) (D : Int) (hD : D ≤ 16) {w0 w : World} {b : Nat} {c : UInt8} {r : List UInt8} (R : RdK w0 b (c :: r) w) (hk0 : (c.toNat : Int) - 1 = 1) :
    Calls Tryd.prog 24 #[.pointer (some ⟨b, 0, none⟩), .int .i64 D] w (ValA w0 b w n (kindK (valueK 0) 1 r)) := by
  have hn := next_cons (R.al (o := .cells #[.int .i64 0, .int .i64 0, .string ⟨#[]⟩, .slice none 0 0, .slice none 0 0] 28))
  have hlt := R.lt
  have hB0 : w.heap.size ≤ w.heap.size := Nat.le_refl _
  obtain ⟨C, hC⟩ : ∃ C : Int, (c.toNat : Int) = C := ⟨_, rfl⟩
  rw [hC] at hn hk0
  have hc256 := c.toNat_lt
  have hw : wrap64 (wrap64 C - 1) = 1 := by unfold wrap64; omega
  have HW := (show Hid _ from R.below.size)
  clear R hC hc256 hk0
  go_enter Tryd.func24, Tryd.ntmps24
  go_wp2_with fail
  refine hn.mono ?_
  rintro e w1 ⟨rfl, K1, R1⟩
  have V1 := VlK.begin hlt K1 R1 1
  have hnum : Calls Tryd.prog 36 #[.pointer (some ⟨b, 0, none⟩), .int .i64 1] _ _ := number_any V1.rd 1 (by decide)
  obtain ⟨j0, j1, j2, j3, j4, jf⟩ := row5 (K1.mem (heap_alloc_new w _) (by omega))
  have hlt2 : w.heap.size < w1.heap.size := V1.new
  have hne : w.heap.size ≠ w1.heap.size := by omega
  have hne2 : w1.heap.size ≠ w.heap.size := by omega
  have H1 := (show Hid _ from V1)
  clear hn K1 R1 V1
  go_wp2_with fail
  refine hnum.mono ?_
  rintro e w2 ⟨K2, h2⟩
  have V2 := H1.out.over K2
  obtain ⟨j0, j1, j2, j3, j4, jf⟩ := row5 V2.row
  obtain ⟨i0, i1, i2, i3, i4, hif⟩ := row5 V2.own
  have hlt3 := lt_of_heap V2.row
  have hlt4 := lt_of_heap V2.own
  have HV := (show Hid _ from V2.kept)
  have hwb := HW.out
  clear hnum K2 V2
  rcases h2 with ⟨hlen, rfl⟩ | ⟨hlen, rfl, R2⟩
  · go_wp2_with fail
    refine bodyPost_ret (v := .tuple #[.agg #[.int .i64 1, .int .i64 0, .string ⟨#[]⟩, .slice none 0 0, .slice none 0 0], .bool false]) (by simp [results, Tryd.results24, go_sem, j0, j1, j2, j3, j4]) rfl ?_
    have hk := HV.out
    have hB : w.heap.size ≤ w1.heap.size := by omega
    rw [kindK, if_pos rfl, if_pos hlen]
    refine ⟨?_, _, _, _, rfl⟩
    repeat (with_reducible first | exact hk | refine KeptB.setc ?_ (Nat.le_refl _) | refine KeptB.setc ?_ hB | refine KeptB.al ?_)
  · obtain ⟨M, hM⟩ : ∃ M : Int, wrap64 (numL (r.take 1) : Int) = M := ⟨_, rfl⟩
    have HM := (show Hid _ from And.intro hM R2)
    rw [hM]
    clear hM R2
    go_wp2_with fail
    refine bodyPost_ret (v := .tuple #[.agg #[.int .i64 1, .int .i64 M, .string ⟨#[]⟩, .slice none 0 0, .slice none 0 0], .bool true]) (by simp [results, Tryd.results24, go_sem, j0, j1, j2, j3, j4]) rfl ?_
    have hk := HV.out
    have hr := HM.out.2
    have hB : w.heap.size ≤ w1.heap.size := by omega
    have hnb : w.heap.size ≠ b := by omega
    have hnb2 : w1.heap.size ≠ b := by omega
    have hwb2 : w0.heap.size ≤ w1.heap.size := by omega
    rw [kindK, if_pos rfl, if_neg (by omega), HM.out.1]
    refine ⟨?_, _, _, rfl, rep_bare _ _ _ _, ?_⟩
    · repeat (with_reducible first | exact hk | refine KeptB.setc ?_ (Nat.le_refl _) | refine KeptB.setc ?_ hB | refine KeptB.al ?_)
    · repeat (with_reducible first | exact hr | refine RdK.setc ?_ hnb hwb | refine RdK.setc ?_ hnb2 hwb2 | refine RdK.al ?_)

set_option maxRecDepth 100000 in
set_option maxHeartbeats 4000000 in
theorem value_int (n : Nat) (D : Int) (hD : D ≤ 16) {w0 w : World} {b : Nat} {c : UInt8} {r : List UInt8} (R : RdK w0 b (c :: r) w) (hk0 : (c.toNat : Int) - 1 = 2) :
    Calls Tryd.prog 24 #[.pointer (some ⟨b, 0, none⟩), .int .i64 D] w (ValA w0 b w n (kindK (valueK 0) 2 r)) := by
  have hn := next_cons (R.al (o := .cells #[.int .i64 0, .int .i64 0, .string ⟨#[]⟩, .slice none 0 0, .slice none 0 0] 28))
  have hlt := R.lt
  have hB0 : w.heap.size ≤ w.heap.size := Nat.le_refl _
  obtain ⟨C, hC⟩ : ∃ C : Int, (c.toNat : Int) = C := ⟨_, rfl⟩
  rw [hC] at hn hk0
  have hc256 := c.toNat_lt
  have hw : wrap64 (wrap64 C - 1) = 2 := by unfold wrap64; omega
  have HW := (show Hid _ from R.below.size)
  clear R hC hc256 hk0
  go_enter Tryd.func24, Tryd.ntmps24
  go_wp2_with fail
  refine hn.mono ?_
  rintro e w1 ⟨rfl, K1, R1⟩
  have V1 := VlK.begin hlt K1 R1 2
  have hnum : Calls Tryd.prog 36 #[.pointer (some ⟨b, 0, none⟩), .int .i64 8] _ _ := number_any V1.rd 8 (by decide)
  obtain ⟨j0, j1, j2, j3, j4, jf⟩ := row5 (K1.mem (heap_alloc_new w _) (by omega))
  have hlt2 : w.heap.size < w1.heap.size := V1.new
  have hne : w.heap.size ≠ w1.heap.size := by omega
  have hne2 : w1.heap.size ≠ w.heap.size := by omega
  have H1 := (show Hid _ from V1)
  clear hn K1 R1 V1
  go_wp2_with fail
  refine hnum.mono ?_
  rintro e w2 ⟨K2, h2⟩
  have V2 := H1.out.over K2
  obtain ⟨j0, j1, j2, j3, j4, jf⟩ := row5 V2.row
  obtain ⟨i0, i1, i2, i3, i4, hif⟩ := row5 V2.own
  have hlt3 := lt_of_heap V2.row
  have hlt4 := lt_of_heap V2.own
  have HV := (show Hid _ from V2.kept)
  have hwb := HW.out
  clear hnum V2
  clear K2
  rcases h2 with ⟨hlen, rfl⟩ | ⟨hlen, rfl, R2⟩
  · have hT := fun w => turned_any 0 (by unfold I64; omega) w
    obtain ⟨M, hM⟩ : ∃ M : Int, tw 0 = M := ⟨_, rfl⟩
    rw [hM] at hT
    clear hM
    go_wp2_with fail
    refine (hT _).mono ?_
    rintro e w3 ⟨rfl, rfl⟩
    clear hT
    go_wp2_with fail
    refine bodyPost_ret (v := .tuple #[.agg #[.int .i64 2, .int .i64 M, .string ⟨#[]⟩, .slice none 0 0, .slice none 0 0], .bool false]) (by simp [results, Tryd.results24, go_sem, j0, j1, j2, j3, j4]) rfl ?_
    have hk := HV.out
    have hB : w.heap.size ≤ w1.heap.size := by omega
    rw [kindK, if_neg (by decide), if_pos rfl, if_pos hlen]
    refine ⟨?_, _, _, _, rfl⟩
    repeat (with_reducible first | exact hk | refine KeptB.setc ?_ (Nat.le_refl _) | refine KeptB.setc ?_ hB | refine KeptB.al ?_)
  · obtain ⟨M0, hM0⟩ : ∃ M : Int, wrap64 (numL (r.take 8) : Int) = M := ⟨_, rfl⟩
    have hT := fun w => turned_any M0 (by rw [← hM0]; unfold I64 wrap64; omega) w
    obtain ⟨M, hM⟩ : ∃ M : Int, tw M0 = M := ⟨_, rfl⟩
    rw [hM] at hT
    rw [hM0]
    have HM := (show Hid _ from And.intro hM0 (And.intro hM R2))
    clear hM hM0 R2
    go_wp2_with fail
    refine (hT _).mono ?_
    rintro e w3 ⟨rfl, rfl⟩
    clear hT
    go_wp2_with fail
    refine bodyPost_ret (v := .tuple #[.agg #[.int .i64 2, .int .i64 M, .string ⟨#[]⟩, .slice none 0 0, .slice none 0 0], .bool true]) (by simp [results, Tryd.results24, go_sem, j0, j1, j2, j3, j4]) rfl ?_
    have hk := HV.out
    have hB : w.heap.size ≤ w1.heap.size := by omega
    have hnb : w.heap.size ≠ b := by omega
    have hnb2 : w1.heap.size ≠ b := by omega
    have hwb2 : w0.heap.size ≤ w1.heap.size := by omega
    have hr := HM.out.2.2
    rw [kindK, if_neg (by decide), if_pos rfl, if_neg (by omega), HM.out.1, HM.out.2.1]
    refine ⟨?_, _, _, rfl, rep_bare _ _ _ _, ?_⟩
    · repeat (with_reducible first | exact hk | refine KeptB.setc ?_ (Nat.le_refl _) | refine KeptB.setc ?_ hB | refine KeptB.al ?_)
    · repeat (with_reducible first | exact hr | refine RdK.setc ?_ hnb hwb | refine RdK.setc ?_ hnb2 hwb2 | refine RdK.al ?_)

set_option maxRecDepth 100000 in
set_option maxHeartbeats 4000000 in
theorem value_text (n : Nat) (D : Int) (hD : D ≤ 16) {w0 w : World} {b : Nat} {c : UInt8} {r : List UInt8} (R : RdK w0 b (c :: r) w) (hk0 : (c.toNat : Int) - 1 = 3) :
    Calls Tryd.prog 24 #[.pointer (some ⟨b, 0, none⟩), .int .i64 D] w (ValA w0 b w n (kindK (valueK 0) 3 r)) := by
  obtain ⟨tx, htx⟩ : ∃ t, ktextP r = t := ⟨_, rfl⟩
  have hn := next_cons (R.al (o := .cells #[.int .i64 0, .int .i64 0, .string ⟨#[]⟩, .slice none 0 0, .slice none 0 0] 28))
  have hlt := R.lt
  have hB0 : w.heap.size ≤ w.heap.size := Nat.le_refl _
  obtain ⟨C, hC⟩ : ∃ C : Int, (c.toNat : Int) = C := ⟨_, rfl⟩
  rw [hC] at hn hk0
  have hc256 := c.toNat_lt
  have hw : wrap64 (wrap64 C - 1) = 3 := by unfold wrap64; omega
  have HW := (show Hid _ from R.below.size)
  have HX := (show Hid _ from htx)
  clear htx R hC hc256 hk0
  go_enter Tryd.func24, Tryd.ntmps24
  go_wp2_with fail
  refine hn.mono ?_
  rintro e w1 ⟨rfl, K1, R1⟩
  have V1 := VlK.begin hlt K1 R1 3
  have hnum : Calls Tryd.prog 38 #[.pointer (some ⟨b, 0, none⟩)] _ _ := text_any V1.rd
  obtain ⟨j0, j1, j2, j3, j4, jf⟩ := row5 (K1.mem (heap_alloc_new w _) (by omega))
  have hlt2 : w.heap.size < w1.heap.size := V1.new
  have hne : w.heap.size ≠ w1.heap.size := by omega
  have hne2 : w1.heap.size ≠ w.heap.size := by omega
  have H1 := (show Hid _ from V1)
  clear hn K1 R1 V1
  go_wp2_with fail
  refine hnum.mono ?_
  rintro e w2 ⟨K2, h2⟩
  have V2 := H1.out.over K2
  obtain ⟨j0, j1, j2, j3, j4, jf⟩ := row5 V2.row
  obtain ⟨i0, i1, i2, i3, i4, hif⟩ := row5 V2.own
  have hlt3 := lt_of_heap V2.row
  have hlt4 := lt_of_heap V2.own
  have HV := (show Hid _ from V2.kept)
  have hwb := HW.out
  clear hnum V2
  clear K2
  rw [HX.out] at h2
  cases tx with
  | none =>
    subst h2
    go_wp2_with fail
    refine bodyPost_ret (v := .tuple #[.agg #[.int .i64 3, .int .i64 0, .string ⟨#[]⟩, .slice none 0 0, .slice none 0 0], .bool false]) (by simp [results, Tryd.results24, go_sem, j0, j1, j2, j3, j4]) rfl ?_
    have hk := HV.out
    have hB : w.heap.size ≤ w1.heap.size := by omega
    rw [kindK, if_neg (by decide), if_neg (by decide), if_pos rfl, HX.out]
    refine ⟨?_, _, _, _, rfl⟩
    repeat (with_reducible first | exact hk | refine KeptB.setc ?_ (Nat.le_refl _) | refine KeptB.setc ?_ hB | refine KeptB.al ?_)
  | some p =>
    obtain ⟨rfl, R2⟩ := h2
    obtain ⟨P, hP⟩ : ∃ P : ByteArray, (⟨p.1.toArray⟩ : ByteArray) = P := ⟨_, rfl⟩
    rw [hP]
    have HM := (show Hid _ from And.intro hP R2)
    clear hP R2
    go_wp2_with fail
    refine bodyPost_ret (v := .tuple #[.agg #[.int .i64 3, .int .i64 0, .string P, .slice none 0 0, .slice none 0 0], .bool true]) (by simp [results, Tryd.results24, go_sem, j0, j1, j2, j3, j4]) rfl ?_
    have hk := HV.out
    have hB : w.heap.size ≤ w1.heap.size := by omega
    have hnb : w.heap.size ≠ b := by omega
    have hnb2 : w1.heap.size ≠ b := by omega
    have hwb2 : w0.heap.size ≤ w1.heap.size := by omega
    have hr := HM.out.2
    rw [kindK, if_neg (by decide), if_neg (by decide), if_pos rfl, HX.out]
    refine ⟨?_, _, _, by rw [← HM.out.1], rep_bare _ _ _ _, ?_⟩
    · repeat (with_reducible first | exact hk | refine KeptB.setc ?_ (Nat.le_refl _) | refine KeptB.setc ?_ hB | refine KeptB.al ?_)
    · repeat (with_reducible first | exact hr | refine RdK.setc ?_ hnb hwb | refine RdK.setc ?_ hnb2 hwb2 | refine RdK.al ?_)

set_option maxRecDepth 100000 in
set_option maxHeartbeats 4000000 in
theorem value_list (n : Nat) (D : Int) (hD : D ≤ 16) {w0 w : World} {b : Nat} {c : UInt8} {r : List UInt8} (R : RdK w0 b (c :: r) w) (hk0 : (c.toNat : Int) - 1 = 4) (D2 : Int) (hD2 : wrap64 (D + 1) = D2) (ih : ∀ (w0 : World) (b : Nat) (l : List UInt8) (w : World), RdK w0 b l w → Calls Tryd.prog 24 #[.pointer (some ⟨b, 0, none⟩), .int .i64 D2] w (ValA w0 b w n (valueK n l))) :
    Calls Tryd.prog 24 #[.pointer (some ⟨b, 0, none⟩), .int .i64 D] w (ValA w0 b w (n + 1) (kindK (valueK n) 4 r)) := by
  obtain ⟨tx, htx⟩ : ∃ t, rowK (valueK n) (r.length + 1) r = t := ⟨_, rfl⟩
  have hn := next_cons (R.al (o := .cells #[.int .i64 0, .int .i64 0, .string ⟨#[]⟩, .slice none 0 0, .slice none 0 0] 28))
  have hlt := R.lt
  have hB0 : w.heap.size ≤ w.heap.size := Nat.le_refl _
  obtain ⟨C, hC⟩ : ∃ C : Int, (c.toNat : Int) = C := ⟨_, rfl⟩
  rw [hC] at hn hk0
  have hc256 := c.toNat_lt
  have hw : wrap64 (wrap64 C - 1) = 4 := by unfold wrap64; omega
  have HW := (show Hid _ from R.below.size)
  have HX := (show Hid _ from htx)
  have HI := (show Hid _ from And.intro ih ih)
  clear htx ih R hC hc256 hk0
  go_enter Tryd.func24, Tryd.ntmps24
  go_wp2_with fail
  refine hn.mono ?_
  rintro e w1 ⟨rfl, K1, R1⟩
  have V1 := VlK.begin hlt K1 R1 4
  have hnum : Calls Tryd.prog 39 #[.pointer (some ⟨b, 0, none⟩), .int .i64 D2] _ _ := list_any n D2 HI.out.1 V1.rd
  obtain ⟨j0, j1, j2, j3, j4, jf⟩ := row5 (K1.mem (heap_alloc_new w _) (by omega))
  have hlt2 : w.heap.size < w1.heap.size := V1.new
  have hne : w.heap.size ≠ w1.heap.size := by omega
  have hne2 : w1.heap.size ≠ w.heap.size := by omega
  have H1 := (show Hid _ from V1)
  clear hn K1 R1 V1
  go_wp2_with fail
  refine hnum.mono ?_
  rintro e w2 ⟨K2, h2⟩
  have V2 := H1.out.over K2
  obtain ⟨j0, j1, j2, j3, j4, jf⟩ := row5 V2.row
  obtain ⟨i0, i1, i2, i3, i4, hif⟩ := row5 V2.own
  have hlt3 := lt_of_heap V2.row
  have hlt4 := lt_of_heap V2.own
  have HV := (show Hid _ from V2.kept)
  have hwb := HW.out
  clear hnum V2
  have hs1 : (w1.alloc (.cells #[.int .i64 4, .int .i64 0, .string ⟨#[]⟩, .slice none 0 0, .slice none 0 0] 28)).heap.size = w1.heap.size + 1 := by simp
  clear K2 HI
  rw [HX.out] at h2
  cases tx with
  | none =>
    subst h2
    go_wp2_with fail
    refine bodyPost_ret (v := .tuple #[.agg #[.int .i64 4, .int .i64 0, .string ⟨#[]⟩, .slice none 0 0, .slice none 0 0], .bool false]) (by simp [results, Tryd.results24, go_sem, j0, j1, j2, j3, j4]) rfl ?_
    have hk := HV.out
    have hB : w.heap.size ≤ w1.heap.size := by omega
    rw [kindK, if_neg (by decide), if_neg (by decide), if_neg (by decide), if_pos rfl, HX.out]
    refine ⟨?_, _, _, _, rfl⟩
    repeat (with_reducible first | exact hk | refine KeptB.setc ?_ (Nat.le_refl _) | refine KeptB.setc ?_ hB | refine KeptB.al ?_)
  | some p =>
    obtain ⟨s, es, rfl, hes, hrow, hrep, R2⟩ := h2
    obtain ⟨sa, sc, rfl⟩ := hrow.slice
    have HM := (show Hid _ from And.intro hes (And.intro hrow (And.intro hrep R2)))
    clear hes hrow hrep R2
    go_wp2_with fail
    refine bodyPost_ret (v := .tuple #[.agg #[.int .i64 4, .int .i64 0, .string ⟨#[]⟩, .slice sa es.length sc, .slice none 0 0], .bool true]) (by simp [results, Tryd.results24, go_sem, j0, j1, j2, j3, j4]) rfl ?_
    have hk := HV.out
    have hB : w.heap.size ≤ w1.heap.size := by omega
    have hnb : w.heap.size ≠ b := by omega
    have hnb2 : w1.heap.size ≠ b := by omega
    have hwb2 : w0.heap.size ≤ w1.heap.size := by omega
    obtain ⟨hes, hrow, hrep, hr⟩ := HM.out
    rw [kindK, if_neg (by decide), if_neg (by decide), if_neg (by decide), if_pos rfl, HX.out]
    have hno : ¬ ((w1.alloc (.cells #[.int .i64 4, .int .i64 0, .string ⟨#[]⟩, .slice none 0 0, .slice none 0 0] 28)).heap.size ≤ w.heap.size) := by omega
    have hno2 : ¬ ((w1.alloc (.cells #[.int .i64 4, .int .i64 0, .string ⟨#[]⟩, .slice none 0 0, .slice none 0 0] 28)).heap.size ≤ w1.heap.size) := by omega
    have hq : Rep (fun c => (w1.alloc (.cells #[.int .i64 4, .int .i64 0, .string ⟨#[]⟩, .slice none 0 0, .slice none 0 0] 28)).heap.size ≤ c) (n + 1) w2 ⟨4, 0, ⟨#[]⟩, p.1, []⟩ (.slice sa es.length sc) (.slice none 0 0) := ⟨⟨es, hes, hrow, hrep⟩, ⟨[], rfl, RowAt.nil, fun e he => (by cases he)⟩⟩
    refine ⟨?_, _, _, rfl, ?_, ?_⟩
    · repeat (with_reducible first | exact hk | refine KeptB.setc ?_ (Nat.le_refl _) | refine KeptB.setc ?_ hB | refine KeptB.al ?_)
    · refine Rep.move (ok := fun c => (w1.alloc (.cells #[.int .i64 4, .int .i64 0, .string ⟨#[]⟩, .slice none 0 0, .slice none 0 0] 28)).heap.size ≤ c) (fun c hc _ => ⟨by show w.heap.size ≤ c; omega, rfl⟩) ?_
      repeat (with_reducible first | exact hq | refine Rep.setc ?_ hno | refine Rep.setc ?_ hno2 | refine Rep.al ?_)
    · repeat (with_reducible first | exact hr | refine RdK.setc ?_ hnb hwb | refine RdK.setc ?_ hnb2 hwb2 | refine RdK.al ?_)

set_option maxRecDepth 100000 in
set_option maxHeartbeats 4000000 in
theorem value_obj (n : Nat) (D : Int) (hD : D ≤ 16) {w0 w : World} {b : Nat} {c : UInt8} {r : List UInt8} (R : RdK w0 b (c :: r) w) (hk0 : (c.toNat : Int) - 1 = 5) (D2 : Int) (hD2 : wrap64 (D + 1) = D2) (ih : ∀ (w0 : World) (b : Nat) (l : List UInt8) (w : World), RdK w0 b l w → Calls Tryd.prog 49 #[.pointer (some ⟨b, 0, none⟩), .int .i64 D2] w (FldA w0 b w n (fieldK (valueK n) l))) :
    Calls Tryd.prog 24 #[.pointer (some ⟨b, 0, none⟩), .int .i64 D] w (ValA w0 b w (n + 1) (kindK (valueK n) 5 r)) := by
  obtain ⟨tx, htx⟩ : ∃ t, rowK (fieldK (valueK n)) (r.length + 1) r = t := ⟨_, rfl⟩
  have hn := next_cons (R.al (o := .cells #[.int .i64 0, .int .i64 0, .string ⟨#[]⟩, .slice none 0 0, .slice none 0 0] 28))
  have hlt := R.lt
  have hB0 : w.heap.size ≤ w.heap.size := Nat.le_refl _
  obtain ⟨C, hC⟩ : ∃ C : Int, (c.toNat : Int) = C := ⟨_, rfl⟩
  rw [hC] at hn hk0
  have hc256 := c.toNat_lt
  have hw : wrap64 (wrap64 C - 1) = 5 := by unfold wrap64; omega
  have HW := (show Hid _ from R.below.size)
  have HX := (show Hid _ from htx)
  have HI := (show Hid _ from And.intro ih ih)
  clear htx ih R hC hc256 hk0
  go_enter Tryd.func24, Tryd.ntmps24
  go_wp2_with fail
  refine hn.mono ?_
  rintro e w1 ⟨rfl, K1, R1⟩
  have V1 := VlK.begin hlt K1 R1 5
  have hnum : Calls Tryd.prog 40 #[.pointer (some ⟨b, 0, none⟩), .int .i64 D2] _ _ := fields_any n D2 HI.out.1 V1.rd
  obtain ⟨j0, j1, j2, j3, j4, jf⟩ := row5 (K1.mem (heap_alloc_new w _) (by omega))
  have hlt2 : w.heap.size < w1.heap.size := V1.new
  have hne : w.heap.size ≠ w1.heap.size := by omega
  have hne2 : w1.heap.size ≠ w.heap.size := by omega
  have H1 := (show Hid _ from V1)
  clear hn K1 R1 V1
  go_wp2_with fail
  refine hnum.mono ?_
  rintro e w2 ⟨K2, h2⟩
  have V2 := H1.out.over K2
  obtain ⟨j0, j1, j2, j3, j4, jf⟩ := row5 V2.row
  obtain ⟨i0, i1, i2, i3, i4, hif⟩ := row5 V2.own
  have hlt3 := lt_of_heap V2.row
  have hlt4 := lt_of_heap V2.own
  have HV := (show Hid _ from V2.kept)
  have hwb := HW.out
  clear hnum V2
  have hs1 : (w1.alloc (.cells #[.int .i64 5, .int .i64 0, .string ⟨#[]⟩, .slice none 0 0, .slice none 0 0] 28)).heap.size = w1.heap.size + 1 := by simp
  clear K2 HI
  rw [HX.out] at h2
  cases tx with
  | none =>
    subst h2
    go_wp2_with fail
    refine bodyPost_ret (v := .tuple #[.agg #[.int .i64 5, .int .i64 0, .string ⟨#[]⟩, .slice none 0 0, .slice none 0 0], .bool false]) (by simp [results, Tryd.results24, go_sem, j0, j1, j2, j3, j4]) rfl ?_
    have hk := HV.out
    have hB : w.heap.size ≤ w1.heap.size := by omega
    rw [kindK, if_neg (by decide), if_neg (by decide), if_neg (by decide), if_neg (by decide), if_pos rfl, HX.out]
    refine ⟨?_, _, _, _, rfl⟩
    repeat (with_reducible first | exact hk | refine KeptB.setc ?_ (Nat.le_refl _) | refine KeptB.setc ?_ hB | refine KeptB.al ?_)
  | some p =>
    obtain ⟨s, es, rfl, hes, hrow, hrep, R2⟩ := h2
    obtain ⟨sa, sc, rfl⟩ := hrow.slice
    have HM := (show Hid _ from And.intro hes (And.intro hrow (And.intro hrep R2)))
    clear hes hrow hrep R2
    go_wp2_with fail
    refine bodyPost_ret (v := .tuple #[.agg #[.int .i64 5, .int .i64 0, .string ⟨#[]⟩, .slice none 0 0, .slice sa es.length sc], .bool true]) (by simp [results, Tryd.results24, go_sem, j0, j1, j2, j3, j4]) rfl ?_
    have hk := HV.out
    have hB : w.heap.size ≤ w1.heap.size := by omega
    have hnb : w.heap.size ≠ b := by omega
    have hnb2 : w1.heap.size ≠ b := by omega
    have hwb2 : w0.heap.size ≤ w1.heap.size := by omega
    obtain ⟨hes, hrow, hrep, hr⟩ := HM.out
    rw [kindK, if_neg (by decide), if_neg (by decide), if_neg (by decide), if_neg (by decide), if_pos rfl, HX.out]
    have hno : ¬ ((w1.alloc (.cells #[.int .i64 5, .int .i64 0, .string ⟨#[]⟩, .slice none 0 0, .slice none 0 0] 28)).heap.size ≤ w.heap.size) := by omega
    have hno2 : ¬ ((w1.alloc (.cells #[.int .i64 5, .int .i64 0, .string ⟨#[]⟩, .slice none 0 0, .slice none 0 0] 28)).heap.size ≤ w1.heap.size) := by omega
    have hq : Rep (fun c => (w1.alloc (.cells #[.int .i64 5, .int .i64 0, .string ⟨#[]⟩, .slice none 0 0, .slice none 0 0] 28)).heap.size ≤ c) (n + 1) w2 ⟨5, 0, ⟨#[]⟩, [], p.1⟩ (.slice none 0 0) (.slice sa es.length sc) := ⟨⟨[], rfl, RowAt.nil, fun e he => (by cases he)⟩, ⟨es, hes, hrow, hrep⟩⟩
    refine ⟨?_, _, _, rfl, ?_, ?_⟩
    · repeat (with_reducible first | exact hk | refine KeptB.setc ?_ (Nat.le_refl _) | refine KeptB.setc ?_ hB | refine KeptB.al ?_)
    · refine Rep.move (ok := fun c => (w1.alloc (.cells #[.int .i64 5, .int .i64 0, .string ⟨#[]⟩, .slice none 0 0, .slice none 0 0] 28)).heap.size ≤ c) (fun c hc _ => ⟨by show w.heap.size ≤ c; omega, rfl⟩) ?_
      repeat (with_reducible first | exact hq | refine Rep.setc ?_ hno | refine Rep.setc ?_ hno2 | refine Rep.al ?_)
    · repeat (with_reducible first | exact hr | refine RdK.setc ?_ hnb hwb | refine RdK.setc ?_ hnb2 hwb2 | refine RdK.al ?_)

theorem field_any (n : Nat) (D : Int) (ih : ∀ (w0 : World) (b : Nat) (l : List UInt8) (w : World), RdK w0 b l w → Calls Tryd.prog 24 #[.pointer (some ⟨b, 0, none⟩), .int .i64 D] w (ValA w0 b w n (valueK n l))) {w0 w : World} {b : Nat} {l : List UInt8} (R : RdK w0 b l w) :
    Calls Tryd.prog 49 #[.pointer (some ⟨b, 0, none⟩), .int .i64 D] w (FldA w0 b w n (fieldK (valueK n) l)) := by
  by_cases h0 : l.head? = some 1
  · obtain ⟨r, rfl⟩ : ∃ r, l = 1 :: r := by
      cases l with
      | nil => simp at h0
      | cons c r => simp at h0; exact ⟨r, by rw [h0]⟩
    have e : fieldK (valueK n) (1 :: r) = (match ktextP r with | none => none | some p => (valueK n p.2).map (fun q => (((⟨p.1.toArray⟩ : ByteArray), q.1), q.2))) := rfl
    rw [e]
    rcases hx : ktextP r with _ | ⟨nm, r2⟩
    · exact field_textless n D R hx
    · rcases hv : valueK n r2 with _ | ⟨x, rest⟩
      · simp only [hv]
        exact field_less n D ih R hx hv
      · simp only [hv]
        exact field_full n D ih R hx hv
  · have e : fieldK (valueK n) l = none := by unfold fieldK; rw [if_neg h0]
    rw [e]
    exact field_no n D R h0
theorem kindK_any (f g : List UInt8 → Option (V × List UInt8)) (k : Int) (r : List UInt8) (h : k ≠ 4) (h2 : k ≠ 5) : kindK f k r = kindK g k r := by
  unfold kindK
  rw [if_neg h, if_neg h2, if_neg h, if_neg h2]
theorem value_any : ∀ (n : Nat), n ≤ 16 → ∀ (w0 : World) (b : Nat) (l : List UInt8) (w : World), RdK w0 b l w → Calls Tryd.prog 24 #[.pointer (some ⟨b, 0, none⟩), .int .i64 (17 - (n : Int))] w (ValA w0 b w n (valueK n l))
  | 0, _, w0, b, l, w, R => by
    cases l with
    | nil => exact value_nil 0 _ R
    | cons c r => exact value_deep 0 _ (by decide) R
  | n + 1, hn, w0, b, l, w, R => by
    have ih := value_any n (by omega)
    have hD : (17 : Int) - ((n + 1 : Nat) : Int) ≤ 16 := by omega
    have hD2 : wrap64 (17 - ((n + 1 : Nat) : Int) + 1) = 17 - (n : Int) := by unfold wrap64; omega
    cases l with
    | nil => exact value_nil _ _ R
    | cons c r =>
      show Calls _ _ _ _ (ValA w0 b w (n + 1) (kindK (valueK n) ((c.toNat : Int) - 1) r))
      obtain ⟨k, hk⟩ : ∃ k : Int, (c.toNat : Int) - 1 = k := ⟨_, rfl⟩
      rw [hk]
      by_cases h1 : k = 1
      · subst h1; rw [kindK_any _ (valueK 0) 1 r (by decide) (by decide)]; exact value_bool _ _ hD R hk
      by_cases h2 : k = 2
      · subst h2; rw [kindK_any _ (valueK 0) 2 r (by decide) (by decide)]; exact value_int _ _ hD R hk
      by_cases h3 : k = 3
      · subst h3; rw [kindK_any _ (valueK 0) 3 r (by decide) (by decide)]; exact value_text _ _ hD R hk
      by_cases h4 : k = 4
      · subst h4; exact value_list n _ hD R hk _ hD2 ih
      by_cases h5 : k = 5
      · subst h5; exact value_obj n _ hD R hk _ hD2 fun w0 b l w R => field_any n _ ih R
      have e : kindK (valueK n) k r = some (⟨k, 0, ⟨#[]⟩, [], []⟩, r) := by
        unfold kindK; rw [if_neg h1, if_neg h2, if_neg h3, if_neg h4, if_neg h5]
      rw [e]
      exact value_bare _ _ hD R hk h1 h2 h3 h4 h5
end Go.Proofs.YtehjdamdlokoaaaDoor
