/-
  A world that lays the listed variables' cells: for the laws of texts. No conditions.
-/
import Derived.Test.YtgcccihnlecpnaaDoorPRow0
namespace Go.Proofs.YtgcccihnlecpnaaDoor
open Go.RowKit Go.Extern.Stop Go.Stop Go.Extern

abbrev laid7 : List (String × DataW Unit) := [("math/bits.deBruijn32tab", Rows.laid_math_bits_deBruijn32tab), ("math/bits.deBruijn64tab", Rows.laid_math_bits_deBruijn64tab), ("internal/strconv.uint64pow10", Rows.laid_internal_strconv_uint64pow10), ("unicode/utf8.acceptRanges", Rows.laid_unicode_utf8_acceptRanges), ("strconv.ErrRange", Rows.laid_strconv_ErrRange), ("strconv.ErrSyntax", Rows.laid_strconv_ErrSyntax), ("unicode/utf8.first", Rows.laid_unicode_utf8_first)]
abbrev laid8 : List (String × DataW Unit) := [("math/bits.deBruijn32tab", Rows.laid_math_bits_deBruijn32tab), ("math/bits.deBruijn64tab", Rows.laid_math_bits_deBruijn64tab), ("internal/strconv.uint64pow10", Rows.laid_internal_strconv_uint64pow10), ("unicode/utf8.acceptRanges", Rows.laid_unicode_utf8_acceptRanges), ("errors.errorType", Rows.laid_errors_errorType), ("strconv.ErrRange", Rows.laid_strconv_ErrRange), ("strconv.ErrSyntax", Rows.laid_strconv_ErrSyntax), ("unicode/utf8.first", Rows.laid_unicode_utf8_first)]

theorem env_of_laid8 {W : World} (h : laidMetH Tryd.prog laid8 W) (hsh : W.ShapedOpen Tryd.prog) : PEnv W := by
  have h' : laidMet Tryd.prog laid7 W ∧ handlesMet Tryd.prog [("errors.errorType", Rows.laid_errors_errorType)] W := h
  exact env_of h'.1 h'.2 (by simp) (by simp) (by simp) (by simp) (by simp) hsh
def laidB8 (h : Array Obj) : Array Obj := (h.modify 7 tab32).modify 8 tab64
def laidOn8 (w : World) : World := { w with heap := laidC (laidB8 (laidA w.heap)) }
theorem laidWorld_met8 (os : Os) (args : Array Value) : laidMetH Tryd.prog laid8 ((laidOn8 (World.holding Tryd.prog os ⟨#[], #[], []⟩)).forCall (fun _ _ => 0) ⟨#[], args, []⟩).memory :=
  laidMetH_of_parts (laidMet_of_run' 8 (by kernel_rfl) (by kernel_rfl)) (by kernel_rfl)

end Go.Proofs.YtgcccihnlecpnaaDoor
