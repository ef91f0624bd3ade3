/-
  The program's reader of keys: a field whose value is none. Conditions: as stated.
-/
import Derived.Test.YtehjdamdlokoaaaDoorKC
namespace Go.Proofs.YtehjdamdlokoaaaDoor
open Go.RowKit
set_option maxRecDepth 100000 in
set_option maxHeartbeats 4000000 in
theorem field_less (n : Nat) (D : Int) (ih : ∀ (w0 : World) (b : Nat) (l : List UInt8) (w : World), RdK w0 b l w → Calls Tryd.prog 24 #[.pointer (some ⟨b, 0, none⟩), .int .i64 D] w (ValA w0 b w n (valueK n l))) {w0 w : World} {b : Nat} {r nm r2 : List UInt8} (R : RdK w0 b (1 :: r) w) (hx : ktextP r = some (nm, r2)) (hv : valueK n r2 = none) :
    Calls Tryd.prog 49 #[.pointer (some ⟨b, 0, none⟩), .int .i64 D] w (FldA w0 b w n none) := by
  have F := FdK.begin R
  have ht := take_yes F.rd 1 rfl
  have hB : w.heap.size ≤ w.heap.size := Nat.le_refl _
  obtain ⟨P, hP⟩ : ∃ P : ByteArray, (⟨nm.toArray⟩ : ByteArray) = P := ⟨_, rfl⟩
  have HX := (show Hid _ from And.intro hx (And.intro hP (And.intro hv R.below.size)))
  have HF := (show Hid _ from F)
  have HI := (show Hid _ from And.intro ih ih)
  clear R F hx hP hv ih
  go_enter Tryd.func49, Tryd.ntmps49
  go_wp2_with fail
  refine ht.mono ?_
  rintro e w1 ⟨rfl, K1, R1⟩
  have F1 := HF.out.more K1 R1
  have htx := text_any R1
  rw [HX.out.1] at htx
  have HF1 := (show Hid _ from F1)
  clear ht HF F1 K1 R1
  go_wp2_with fail
  refine htx.mono ?_
  rintro e w2 ⟨K2, h2, R2⟩
  simp only [HX.out.2.1] at h2 R2
  subst h2
  have hval := HI.out.1 w0 b r2 w2 R2
  rw [HX.out.2.2.1] at hval
  have F2 := HF1.out.more K2 R2
  have HF2 := (show Hid _ from F2)
  clear htx HF1 K2 R2 HI F2
  go_wp2_with fail
  refine hval.mono ?_
  rintro e w3 ⟨K3, h3⟩
  clear hval
  have hlt0 := HF2.out.lt
  have r3 := K3.mem HF2.out.row (by omega)
  obtain ⟨j0, j1, j2, j3, j4, j5, jf⟩ := row6 r3
  have hlt2 := lt_of_heap r3
  have HK := (show Hid _ from And.intro (HF2.out.kept.trans K3) (lt_of_heap HF2.out.row))
  clear K3 r3 hlt0
  obtain ⟨kk, mm, tt, rfl⟩ := h3
  go_wp2_with fail
  refine bodyPost_ret (v := .tuple #[.agg #[.string P, .int .i64 kk, .int .i64 mm, .string tt, .slice none 0 0, .slice none 0 0], .bool false]) (by simp [results, Tryd.results49, go_sem, j0, j1, j2, j3, j4, j5, hlt2]) rfl ?_
  refine ⟨?_, _, _, _, _, rfl⟩
  have hk := HK.out.1
  repeat (with_reducible first | exact hk | refine KeptB.setc ?_ (Nat.le_refl _) | refine KeptB.setc ?_ hB | refine KeptB.al ?_)
end Go.Proofs.YtehjdamdlokoaaaDoor
