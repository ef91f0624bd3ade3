/-
  The program's reader of keys: a field. Conditions: as stated.
-/
import Derived.Test.YtehjdamdlokoaaaDoorKC
namespace Go.Proofs.YtehjdamdlokoaaaDoor
open Go.RowKit
set_option maxRecDepth 100000 in
set_option maxHeartbeats 4000000 in
theorem field_full (n : Nat) (D : Int) (ih : ∀ (w0 : World) (b : Nat) (l : List UInt8) (w : World), RdK w0 b l w → Calls Tryd.prog 24 #[.pointer (some ⟨b, 0, none⟩), .int .i64 D] w (ValA w0 b w n (valueK n l))) {w0 w : World} {b : Nat} {r nm r2 : List UInt8} (R : RdK w0 b (1 :: r) w) (hx : ktextP r = some (nm, r2)) {x : V} {rest : List UInt8} (hv : valueK n r2 = some (x, rest)) :
    Calls Tryd.prog 49 #[.pointer (some ⟨b, 0, none⟩), .int .i64 D] w (FldA w0 b w n (some ((⟨nm.toArray⟩, x), rest))) := by
  have F := FdK.begin R
  have ht := take_yes F.rd 1 rfl
  have hB : w.heap.size ≤ w.heap.size := Nat.le_refl _
  obtain ⟨P, hP⟩ : ∃ P : ByteArray, (⟨nm.toArray⟩ : ByteArray) = P := ⟨_, rfl⟩
  have HX := (show Hid _ from And.intro hx (And.intro hP (And.intro hv R.below.size)))
  have HF := (show Hid _ from F)
  have HI := (show Hid _ from And.intro ih ih)
  clear R F hx hP hv ih
  go_enter Tryd.func49, Tryd.ntmps49
  go_wp2_with fail
  refine ht.mono ?_
  rintro e w1 ⟨rfl, K1, R1⟩
  have F1 := HF.out.more K1 R1
  have htx := text_any R1
  rw [HX.out.1] at htx
  have HF1 := (show Hid _ from F1)
  clear ht HF F1 K1 R1
  go_wp2_with fail
  refine htx.mono ?_
  rintro e w2 ⟨K2, h2, R2⟩
  simp only [HX.out.2.1] at h2 R2
  subst h2
  have hval := HI.out.1 w0 b r2 w2 R2
  rw [HX.out.2.2.1] at hval
  have F2 := HF1.out.more K2 R2
  have HF2 := (show Hid _ from F2)
  clear htx HF1 K2 R2 HI F2
  go_wp2_with fail
  refine hval.mono ?_
  rintro e w3 ⟨K3, h3⟩
  clear hval
  have hlt0 := HF2.out.lt
  have r3 := K3.mem HF2.out.row (by omega)
  obtain ⟨j0, j1, j2, j3, j4, j5, jf⟩ := row6 r3
  have hlt2 := lt_of_heap r3
  have HK := (show Hid _ from And.intro (HF2.out.kept.trans K3) (lt_of_heap HF2.out.row))
  clear K3 r3 hlt0
  obtain ⟨xl, xf, rfl, hrx, R3⟩ := h3
  simp only at hrx R3 ⊢
  obtain ⟨bl, dl, bf, df, rfl, rfl⟩ := hrx.slices
  have H4 := (show Hid _ from And.intro hrx R3)
  clear hrx R3
  go_wp2_with fail
  refine bodyPost_ret (v := .tuple #[.agg #[.string P, .int .i64 x.kind, .int .i64 x.num, .string x.text, .slice bl x.list.length dl, .slice bf x.fields.length df], .bool true]) (by simp [results, Tryd.results49, go_sem, j0, j1, j2, j3, j4, j5, hlt2]) rfl ?_
  rw [HX.out.2.1]
  have hk := HK.out.1
  have hl2 := HK.out.2
  have hlt0 := HF2.out.lt
  have hwb := HX.out.2.2.2
  have hnb : w.heap.size ≠ b := by omega
  have hno : ¬ (w2.heap.size ≤ w.heap.size) := by omega
  have hq := H4.out.1
  have hr := H4.out.2
  refine ⟨?_, _, _, rfl, ?_, ?_⟩
  · repeat (with_reducible first | exact hk | refine KeptB.setc ?_ (Nat.le_refl _) | refine KeptB.setc ?_ hB | refine KeptB.al ?_)
  · refine Rep.move (ok := fun c => w2.heap.size ≤ c) (fun c hc _ => ⟨by show w.heap.size ≤ c; omega, rfl⟩) ?_
    repeat (with_reducible first | exact hq | refine Rep.setc ?_ hno | refine Rep.al ?_)
  · repeat (with_reducible first | exact hr | refine RdK.setc ?_ hnb hwb | refine RdK.al ?_)
end Go.Proofs.YtehjdamdlokoaaaDoor
