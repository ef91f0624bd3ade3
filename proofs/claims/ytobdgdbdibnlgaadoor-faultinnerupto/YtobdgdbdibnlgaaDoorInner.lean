/-
  The text of a code from 1 to 256 hangs on the code and on one test against strconv's table alone. Conditions: as each states.
-/
import Derived.Test.YtobdgdbdibnlgaaDoorFmt
import Derived.Lib.ItoaLen
namespace Go.Proofs.YtobdgdbdibnlgaaDoor
open Go.RowKit Go.Extern.Stop Go.Stop Go.Extern

theorem Itoa30_of {n : Int} {s : ByteArray} {w : World} (h : Calls Tryd.prog 38 #[.int .i64 n, .int .i64 10] w fun e w' => e = .returned (.string s) ∧ Below w.heap.size w w') :
    Calls Tryd.prog 30 #[.int .i64 n] w fun e w' => e = .returned (.string s) ∧ Below w.heap.size w w' := by
  have HF : Hid (Calls Tryd.prog 38 #[.int .i64 n, .int .i64 10] w fun e w' => e = .returned (.string s) ∧ Below w.heap.size w w') := h
  clear h
  go_enter Tryd.func30, Tryd.ntmps30
  go_wp2_with fail
  refine HF.out.mono ?_
  rintro e w' ⟨rfl, hB⟩
  go_wp2
  go_ret
  exact ⟨rfl, hB⟩
theorem Itoa_of {n : Int} {s : ByteArray} {w : World} (h : Calls Tryd.prog 38 #[.int .i64 n, .int .i64 10] w fun e w' => e = .returned (.string s) ∧ Below w.heap.size w w') :
    Calls Tryd.prog 20 #[.int .i64 n] w fun e w' => e = .returned (.string s) ∧ Below w.heap.size w w' := by
  have HF : Hid (Calls Tryd.prog 30 #[.int .i64 n] w fun e w' => e = .returned (.string s) ∧ Below w.heap.size w w') := Itoa30_of h
  clear h
  go_enter Tryd.func20, Tryd.ntmps20
  go_wp2_with fail
  refine HF.out.mono ?_
  rintro e w' ⟨rfl, hB⟩
  go_wp2
  go_ret
  exact ⟨rfl, hB⟩

theorem Itoa_det (n : Nat) (h2 : n ≤ 256) (c : Bool) : ∃ s : ByteArray, s.size ≤ 21 ∧ ∀ (w : World) (x : Int), w.cell? ⟨1, 2, none⟩ = some (.int .u64 x) → decide (x ≤ (n : Int)) = c →
    Calls Tryd.prog 20 #[.int .i64 n] w fun e w' => e = .returned (.string s) ∧ Below w.heap.size w w' := by
  by_cases h1 : n < 100
  · refine ⟨⟨(Lib.decDigits n).toArray⟩, ?_, fun w x _ _ => (Tryd.strconv_Itoa_small n h1 w).mono (fun e w' h => ⟨h.1, h.2 ▸ Below.refl _ _⟩)⟩
    have := Lib.itoa_length_le (n : Int) (by omega) (by omega)
    have e : Lib.itoa (n : Int) = Lib.decDigits n := by unfold Lib.itoa; rw [if_neg (by omega), Int.toNat_natCast]
    rw [e] at this
    show Array.size _ ≤ 21
    simpa using this
  · cases c
    · obtain ⟨s, hs, hf⟩ := FormatInt_2 n (by omega) h2
      refine ⟨s, by omega, fun w x hx hc => ?_⟩
      have hxn : (n : Int) < x := by simpa using hc
      exact Itoa_of (hf w x hx hxn)
    · obtain ⟨s, hs, hf⟩ := FormatInt_3 n (by omega) h2
      refine ⟨s, by omega, fun w x hx hc => ?_⟩
      have hxn : x ≤ (n : Int) := by simpa using hc
      exact Itoa_of (hf w x hx hxn)

theorem Error_det (n : Nat) (h2 : n ≤ 256) (c : Bool) : ∃ s : ByteArray, s.size ≤ 27 ∧ ∀ (w : World) (x : Int), w.cell? ⟨1, 2, none⟩ = some (.int .u64 x) → decide (x ≤ (n : Int)) = c →
    Calls Tryd.prog 13 #[.int .i64 n] w fun e w' => e = .returned (.string s) ∧ Below w.heap.size w w' := by
  obtain ⟨s, hs, hf⟩ := Itoa_det n h2 c
  refine ⟨⟨#[101, 114, 114, 111, 114, 32]⟩ ++ s, ?_, fun w x hx hc => ?_⟩
  · rw [ByteArray.size_append]
    show 6 + s.size ≤ 27
    omega
  · have HF : Hid (Calls Tryd.prog 20 #[.int .i64 n] w fun e w' => e = .returned (.string s) ∧ Below w.heap.size w w') := hf w x hx hc
    clear hf hc hx
    go_enter Tryd.func13, Tryd.ntmps13
    go_wp2_with fail
    refine HF.out.mono ?_
    rintro e w' ⟨rfl, hB⟩
    go_wp2
    go_ret
    exact ⟨rfl, hB⟩

set_option maxRecDepth 100000 in
/-- what every world that the form lets be holds: at place 2 of the table a number. -/
theorem pow_cell {W : World} (hS : W.ShapedOpen Tryd.prog) : ∃ x : Int, W.cell? ⟨1, 2, none⟩ = some (.int .u64 x) := by
  obtain ⟨⟨zero, t⟩, hz, e⟩ := Option.map_eq_some_iff.1 row1
  simp only [Prod.mk.injEq] at e
  obtain ⟨hzs, rfl⟩ := e
  obtain ⟨cs, hcs, hsz, hok⟩ := hS.1 1 zero 106 (of_decide_eq_true (by kernel_rfl)) hz
  obtain ⟨ts, hts, _, hall⟩ := hok bld
  obtain rfl := Option.some.inj (ct.symm.trans hts)
  have hlt : 2 < cs.size := by omega
  obtain ⟨u, hu, hcell⟩ := hall 2 cs[2] (Array.getElem?_eq_getElem hlt)
  have hu' : u = 99 := (Option.some.inj ((show (List.replicate 20 99)[2 % (List.replicate 20 99).length]? = some 99 by decide).symm.trans hu)).symm
  subst hu'
  unfold Cell.ok at hcell
  rw [Tryd.underlying99] at hcell
  cases hv : cs[2] with
  | int k n =>
    rw [hv] at hcell
    obtain ⟨rfl, _⟩ := hcell
    exact ⟨n, cell_of_heap hcs (by rw [Array.getElem?_eq_getElem hlt, hv])⟩
  | _ => rw [hv] at hcell; exact hcell.elim
end Go.Proofs.YtobdgdbdibnlgaaDoor
