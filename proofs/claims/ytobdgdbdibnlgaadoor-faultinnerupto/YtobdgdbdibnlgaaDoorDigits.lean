/-
  How many digits strconv writes of a number from 100 to 256, whatever its table of powers holds. Conditions: as each states.
-/
import Derived.Test.YtobdgdbdibnlgaaDoorShelfBits
import Derived.Test.YtobdgdbdibnlgaaDoorRow
namespace Go.Proofs.YtobdgdbdibnlgaaDoor
open Go.RowKit Go.Extern.Stop Go.Stop Go.Extern
theorem row1 : (((begin Tryd.prog (fun _ _ => 0) default).world.heap[1]?).bind Obj.row?).map (fun x => (x.1.size, x.2)) = some (20, 106) := by kernel_rfl
theorem bld : Tryd.prog.buildable 106 = true := by kernel_rfl
theorem ct : Tryd.prog.cellTypes Tryd.prog.depth 106 = some (List.replicate 20 99) := by kernel_rfl
theorem digs : ∀ n, n < 257 → 100 ≤ n → Lib.l10 (Lib.bitLen n) = 2 := by decide +kernel
theorem bl : ∀ n, n < 257 → Lib.bitLen n ≤ 64 := by decide +kernel
theorem numDigits_any (n : Nat) (h1 : 100 ≤ n) (h2 : n ≤ 256) (x : Int) (w : World) (hx : w.cell? ⟨1, 2, none⟩ = some (.int .u64 x)) :
    Calls Tryd.prog 41 #[.int .u64 n] w fun e w' => e = .returned (.int .i64 (if x ≤ n then 3 else 2)) ∧ w' = w := by
  have hd := digs n (by omega) h1
  have hb := bl n (by omega)
  by_cases hxn : x ≤ n
  · go_enter Tryd.func41, Tryd.ntmps41
    go_wp2_with fail
    refine (Tryd.bits_Len64 n _ (by omega) (by omega)).mono ?_
    rintro e w' ⟨rfl, rfl⟩
    rw [Int.toNat_natCast]
    go_wp2_with fail
    refine (Tryd.internal_strconv_log10Pow2 _ hb _).mono ?_
    rintro e w'' ⟨rfl, rfl⟩
    rw [hd]
    go_wp2_with (go_at_call 46; refine (Tryd.internal_strconv_bool2_int _ _).mono ?_; rintro e w' ⟨rfl, rfl⟩)
    go_ret
    simp
  · go_enter Tryd.func41, Tryd.ntmps41
    go_wp2_with fail
    refine (Tryd.bits_Len64 n _ (by omega) (by omega)).mono ?_
    rintro e w' ⟨rfl, rfl⟩
    rw [Int.toNat_natCast]
    go_wp2_with fail
    refine (Tryd.internal_strconv_log10Pow2 _ hb _).mono ?_
    rintro e w'' ⟨rfl, rfl⟩
    rw [hd]
    go_wp2_with (go_at_call 46; refine (Tryd.internal_strconv_bool2_int _ _).mono ?_; rintro e w' ⟨rfl, rfl⟩)
    go_ret
    simp
end Go.Proofs.YtobdgdbdibnlgaaDoor
