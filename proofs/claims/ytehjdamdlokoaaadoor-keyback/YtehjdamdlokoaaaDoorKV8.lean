/-
  The program's reader of keys: values. Conditions: as stated.
-/
import Derived.Test.YtehjdamdlokoaaaDoorKF1
import Derived.Test.YtehjdamdlokoaaaDoorKF2
import Derived.Test.YtehjdamdlokoaaaDoorKF3
import Derived.Test.YtehjdamdlokoaaaDoorKV1
import Derived.Test.YtehjdamdlokoaaaDoorKV2
import Derived.Test.YtehjdamdlokoaaaDoorKV3
import Derived.Test.YtehjdamdlokoaaaDoorKV4
import Derived.Test.YtehjdamdlokoaaaDoorKV5
import Derived.Test.YtehjdamdlokoaaaDoorKV6
import Derived.Test.YtehjdamdlokoaaaDoorKV7
namespace Go.Proofs.YtehjdamdlokoaaaDoor
open Go.RowKit

theorem field_any (n : Nat) (D : Int) (ih : ∀ (w0 : World) (b : Nat) (l : List UInt8) (w : World), RdK w0 b l w → Calls Tryd.prog 24 #[.pointer (some ⟨b, 0, none⟩), .int .i64 D] w (ValA w0 b w n (valueK n l))) {w0 w : World} {b : Nat} {l : List UInt8} (R : RdK w0 b l w) :
    Calls Tryd.prog 49 #[.pointer (some ⟨b, 0, none⟩), .int .i64 D] w (FldA w0 b w n (fieldK (valueK n) l)) := by
  by_cases h0 : l.head? = some 1
  · obtain ⟨r, rfl⟩ : ∃ r, l = 1 :: r := by
      cases l with
      | nil => simp at h0
      | cons c r => simp at h0; exact ⟨r, by rw [h0]⟩
    have e : fieldK (valueK n) (1 :: r) = (match ktextP r with | none => none | some p => (valueK n p.2).map (fun q => (((⟨p.1.toArray⟩ : ByteArray), q.1), q.2))) := rfl
    rw [e]
    rcases hx : ktextP r with _ | ⟨nm, r2⟩
    · exact field_textless n D R hx
    · rcases hv : valueK n r2 with _ | ⟨x, rest⟩
      · simp only [hv]
        exact field_less n D ih R hx hv
      · simp only [hv]
        exact field_full n D ih R hx hv
  · have e : fieldK (valueK n) l = none := by unfold fieldK; rw [if_neg h0]
    rw [e]
    exact field_no n D R h0
theorem kindK_any (f g : List UInt8 → Option (V × List UInt8)) (k : Int) (r : List UInt8) (h : k ≠ 4) (h2 : k ≠ 5) : kindK f k r = kindK g k r := by
  unfold kindK
  rw [if_neg h, if_neg h2, if_neg h, if_neg h2]
theorem value_any : ∀ (n : Nat), n ≤ 16 → ∀ (w0 : World) (b : Nat) (l : List UInt8) (w : World), RdK w0 b l w → Calls Tryd.prog 24 #[.pointer (some ⟨b, 0, none⟩), .int .i64 (17 - (n : Int))] w (ValA w0 b w n (valueK n l))
  | 0, _, w0, b, l, w, R => by
    cases l with
    | nil => exact value_nil 0 _ R
    | cons c r => exact value_deep 0 _ (by decide) R
  | n + 1, hn, w0, b, l, w, R => by
    have ih := value_any n (by omega)
    have hD : (17 : Int) - ((n + 1 : Nat) : Int) ≤ 16 := by omega
    have hD2 : wrap64 (17 - ((n + 1 : Nat) : Int) + 1) = 17 - (n : Int) := by unfold wrap64; omega
    cases l with
    | nil => exact value_nil _ _ R
    | cons c r =>
      show Calls _ _ _ _ (ValA w0 b w (n + 1) (kindK (valueK n) ((c.toNat : Int) - 1) r))
      obtain ⟨k, hk⟩ : ∃ k : Int, (c.toNat : Int) - 1 = k := ⟨_, rfl⟩
      rw [hk]
      by_cases h1 : k = 1
      · subst h1; rw [kindK_any _ (valueK 0) 1 r (by decide) (by decide)]; exact value_bool _ _ hD R hk
      by_cases h2 : k = 2
      · subst h2; rw [kindK_any _ (valueK 0) 2 r (by decide) (by decide)]; exact value_int _ _ hD R hk
      by_cases h3 : k = 3
      · subst h3; rw [kindK_any _ (valueK 0) 3 r (by decide) (by decide)]; exact value_text _ _ hD R hk
      by_cases h4 : k = 4
      · subst h4; exact value_list n _ hD R hk _ hD2 ih
      by_cases h5 : k = 5
      · subst h5; exact value_obj n _ hD R hk _ hD2 fun w0 b l w R => field_any n _ ih R
      have e : kindK (valueK n) k r = some (⟨k, 0, ⟨#[]⟩, [], []⟩, r) := by
        unfold kindK; rw [if_neg h1, if_neg h2, if_neg h3, if_neg h4, if_neg h5]
      rw [e]
      exact value_bare _ _ hD R hk h1 h2 h3 h4 h5
end Go.Proofs.YtehjdamdlokoaaaDoor
