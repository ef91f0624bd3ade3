/-
  What the rows of this seat share: the listed variables' cells, a world that lays them, slices of bytes that come in. No conditions beyond those stated.
-/
import Derived.Test.YtdcaohnaiepllaaGreatDoorJR1
import Derived.Test.YtdcaohnaiepllaaGreatDoorVText
import Derived.Test.YtdcaohnaiepllaaGreatDoorCards
import Derived.Test.YtdcaohnaiepllaaGreatDoorTie
import Derived.ProofKit
import Derived.OpenShut
import Derived.Carry
import Derived.LaidHandle
import Derived.LaidLaws
import Derived.Deep.DeepHandedRow
import Derived.Lib.LaidTab
import Derived.Lib.LaidU8T
import Derived.PinnedBridge
namespace Go.Proofs.YtdcaohnaiepllaaGreatDoor
open Go.RowKit Go.Extern.Stop Go.Stop Go.Extern

theorem own : ownKnob Tryz.prog.godebug = none := by kernel_rfl
theorem laidOut : laidOutB Tryz.prog = true := by kernel_rfl
theorem cellsStr : Tryz.prog.cellsOf 9 = 1 := by kernel_rfl
theorem cellsU8 : Tryz.prog.cellsOf 5 = 1 := by kernel_rfl

theorem cells_of_strs {H : Type} {enc : TypeId × Value → H} {w : World} {base : Nat} {sp : Nat → Bool} {held : Bool} {fuel : Nat} {t : TypeId} {n : Nat} {cs : List Value} {ws : List (List UInt8)} {p : List MemPlace}
    (ht : Tryz.prog.underlying t = some (.array n 9)) (h : DataW.trod enc Tryz.prog w base sp held fuel t cs = some (.agg (ws.map fun s => .lit (.string s)), p)) (i : Nat) (hi : i < n) : ∃ u, ws[i]? = some u ∧ cs[i]? = some (.string ⟨u.toArray⟩) := by
  obtain ⟨xs, m, _, hx, _, hl, he⟩ := DataW.trod_array ht h
  have h1 := he i hi
  rw [cellsStr, Nat.mul_one, List.getElem?_eq_getElem (by omega)] at h1
  obtain ⟨s, hc, hs, _⟩ := DataW.trod_string Tryz.underlying9 h1
  simp only [Prod.mk.injEq, DataW.agg.injEq] at hx
  have h2 : (xs.map (·.1))[i]? = some (.lit (.string s.data.toList)) := by rw [List.getElem?_map, List.getElem?_eq_getElem (by omega), hs]; rfl
  rw [← hx.1, List.getElem?_map] at h2
  obtain ⟨u, hu1, hu2⟩ := Option.map_eq_some_iff.1 h2
  simp only [DataW.lit.injEq, Lit.string.injEq] at hu2
  refine ⟨u, hu1, ?_⟩
  have h3 := congrArg (·[0]?) hc
  simp only [List.getElem?_take, List.getElem?_drop] at h3
  simp at h3
  rw [h3, hu2]


theorem et : Tryz.prog.globalNamed "errors.errorType" = some 2 := by kernel_rfl
theorem rt : (Tryz.prog.cutTypes.find? (·.1 == "internal/reflectlite.rtype")).map (·.2) = some 130 := by kernel_rfl
theorem oneRow : ((List.range 234).filter fun t => Tryz.prog.rowNamed t [101, 114, 114, 111, 114]) = [35] := by kernel_rfl
theorem tsize : Tryz.prog.types.size = 234 := by kernel_rfl
theorem gPowType : (Tryz.prog.globals[4]?).map (·.type) = some 184 := by kernel_rfl
theorem cellsPow : Tryz.prog.cellsOf 184 = 20 := by kernel_rfl
theorem cellsU64 : Tryz.prog.cellsOf 128 = 1 := by kernel_rfl

theorem handle_of_laid {W : World} (h : handlesMet Tryz.prog [("errors.errorType", Rows.laid_errors_errorType)] W) : Handle W := by
  obtain ⟨name, u, ty, e1, e2, e3, e4, e5⟩ := h _ (List.mem_singleton.2 rfl)
  have en : name = [101, 114, 114, 111, 114] := (Option.some.inj e1).symm
  subst en
  obtain rfl := Option.some.inj (rt.symm.trans e2)
  have hm : ty ∈ (List.range 234).filter fun t => Tryz.prog.rowNamed t [101, 114, 114, 111, 114] := List.mem_filter.2 ⟨List.mem_range.2 (by rw [← tsize]; exact e3), e4⟩
  rw [oneRow] at hm
  obtain rfl := List.mem_singleton.1 hm
  have hh : typeHandle Tryz.prog 35 = .pointer (some ⟨11, 35, none⟩) := by kernel_rfl
  rw [hh] at e5
  unfold Handle
  simpa using World.var?_cell et e5 0

def u8ren : Go.Shelf.Ren := ⟨fun n => n, fun | 5 => 5 | 119 => 195 | 138 => 197 | 139 => 198 | n => n, fun | 3 => 7 | 4 => 8 | n => n⟩
theorem u8types : U8Types Tryz.prog u8ren := ⟨Tryz.underlying5, Tryz.underlying195, Tryz.underlying197, Tryz.underlying198⟩
theorem u8Extra : U8Extra Tryz.prog u8ren := ⟨by kernel_rfl, by kernel_rfl, by kernel_rfl, by kernel_rfl, by kernel_rfl, by kernel_rfl, by kernel_rfl⟩
theorem accept_eq : Rows.laid_unicode_utf8_acceptRanges = Lib.acceptData := by kernel_rfl
theorem gWords : Tryz.prog.globalNamed "roundelay/roundelaylaw03.words" = some 0 := by kernel_rfl
theorem gNames : Tryz.prog.globalNamed "roundelay/roundelaylaw03.names" = some 1 := by kernel_rfl
theorem gWordsT : (Tryz.prog.globals[0]?).map (·.type) = some 72 := by kernel_rfl
theorem gNamesT : (Tryz.prog.globals[1]?).map (·.type) = some 73 := by kernel_rfl
theorem gSyn : Tryz.prog.globalNamed "strconv.ErrSyntax" = some 5 := by kernel_rfl
theorem gRange : Tryz.prog.globalNamed "strconv.ErrRange" = some 6 := by kernel_rfl
theorem gSynT : (Tryz.prog.globals[5]?).map (·.type) = some 35 := by kernel_rfl
theorem gRangeT : (Tryz.prog.globals[6]?).map (·.type) = some 35 := by kernel_rfl

abbrev laid9 : List (String × DataW Unit) := [("math/bits.deBruijn32tab", Rows.laid_math_bits_deBruijn32tab), ("math/bits.deBruijn64tab", Rows.laid_math_bits_deBruijn64tab), ("internal/strconv.uint64pow10", Rows.laid_internal_strconv_uint64pow10), ("unicode/utf8.acceptRanges", Rows.laid_unicode_utf8_acceptRanges), ("strconv.ErrRange", Rows.laid_strconv_ErrRange), ("strconv.ErrSyntax", Rows.laid_strconv_ErrSyntax), ("roundelay/roundelaylaw03.words", Rows.laid_roundelay_roundelaylaw03_words), ("roundelay/roundelaylaw03.names", Rows.laid_roundelay_roundelaylaw03_names), ("unicode/utf8.first", Rows.laid_unicode_utf8_first)]
abbrev laid10 : List (String × DataW Unit) := [("math/bits.deBruijn32tab", Rows.laid_math_bits_deBruijn32tab), ("math/bits.deBruijn64tab", Rows.laid_math_bits_deBruijn64tab), ("internal/strconv.uint64pow10", Rows.laid_internal_strconv_uint64pow10), ("unicode/utf8.acceptRanges", Rows.laid_unicode_utf8_acceptRanges), ("errors.errorType", Rows.laid_errors_errorType), ("strconv.ErrRange", Rows.laid_strconv_ErrRange), ("strconv.ErrSyntax", Rows.laid_strconv_ErrSyntax), ("roundelay/roundelaylaw03.words", Rows.laid_roundelay_roundelaylaw03_words), ("roundelay/roundelaylaw03.names", Rows.laid_roundelay_roundelaylaw03_names), ("unicode/utf8.first", Rows.laid_unicode_utf8_first)]
abbrev laid7 : List (String × DataW Unit) := [("math/bits.deBruijn32tab", Rows.laid_math_bits_deBruijn32tab), ("math/bits.deBruijn64tab", Rows.laid_math_bits_deBruijn64tab), ("internal/strconv.uint64pow10", Rows.laid_internal_strconv_uint64pow10), ("unicode/utf8.acceptRanges", Rows.laid_unicode_utf8_acceptRanges), ("strconv.ErrRange", Rows.laid_strconv_ErrRange), ("strconv.ErrSyntax", Rows.laid_strconv_ErrSyntax), ("unicode/utf8.first", Rows.laid_unicode_utf8_first)]
abbrev laid8 : List (String × DataW Unit) := [("math/bits.deBruijn32tab", Rows.laid_math_bits_deBruijn32tab), ("math/bits.deBruijn64tab", Rows.laid_math_bits_deBruijn64tab), ("internal/strconv.uint64pow10", Rows.laid_internal_strconv_uint64pow10), ("unicode/utf8.acceptRanges", Rows.laid_unicode_utf8_acceptRanges), ("errors.errorType", Rows.laid_errors_errorType), ("strconv.ErrRange", Rows.laid_strconv_ErrRange), ("strconv.ErrSyntax", Rows.laid_strconv_ErrSyntax), ("unicode/utf8.first", Rows.laid_unicode_utf8_first)]

theorem err_cell {W : World} {ll : List (String × DataW Unit)} {n : String} {g : Nat} {d : DataW Unit} {nm : String} {y : DataW Unit} (hd0 : d = .iface nm y) (hm : laidMet Tryz.prog ll W) (hin : (n, d) ∈ ll) (hg : Tryz.prog.globalNamed n = some g) (ht : (Tryz.prog.globals[g]?).map (·.type) = some 35) :
    ∃ ev, W.cell? ⟨g, 0, none⟩ = some ev ∧ (ev = .nilIface ∨ ∃ te pe, ev = .iface te pe) := by
  obtain ⟨g', t, cs, fuel, p, hg', hty, hvar, hd⟩ := Lib.laidMet.reads hm (n := n) (d := d) hin
  obtain rfl := Option.some.inj (hg.symm.trans hg')
  obtain rfl := Option.some.inj (ht.symm.trans hty)
  subst hd0
  have h1 := World.var?_cell hg hvar 0
  obtain ⟨_, u, v, hcs, _, _⟩ := iface_of_trod Tryz.underlying35 hd
  have h2 : cs[0]? = some (.iface u v) := by
    have := congrArg (·[0]?) hcs
    simpa using this
  rw [h2] at h1
  exact ⟨_, h1, .inr ⟨u, v, rfl⟩⟩

theorem env_of {W : World} {ll : List (String × DataW Unit)} (hm : laidMet Tryz.prog ll W) (hh : handlesMet Tryz.prog [("errors.errorType", Rows.laid_errors_errorType)] W) (i1 : ("unicode/utf8.first", Rows.laid_unicode_utf8_first) ∈ ll) (i2 : ("unicode/utf8.acceptRanges", Rows.laid_unicode_utf8_acceptRanges) ∈ ll) (i3 : ("internal/strconv.uint64pow10", Rows.laid_internal_strconv_uint64pow10) ∈ ll) (i4 : ("strconv.ErrSyntax", Rows.laid_strconv_ErrSyntax) ∈ ll) (i5 : ("strconv.ErrRange", Rows.laid_strconv_ErrRange) ∈ ll) : JEnv W := by
  refine ⟨⟨handle_of_laid hh, ?_, ?_⟩, err_cell (d := Rows.laid_strconv_ErrSyntax) rfl hm i4 gSyn gSynT, err_cell (d := Rows.laid_strconv_ErrRange) rfl hm i5 gRange gRangeT⟩
  · have h3 := Lib.laidMet.reads hm (n := "unicode/utf8.first") (d := Rows.laid_unicode_utf8_first) i1
    have h4 := Lib.laidMet.reads hm (n := "unicode/utf8.acceptRanges") (d := Rows.laid_unicode_utf8_acceptRanges) i2
    rw [show Rows.laid_unicode_utf8_first = Lib.firstData from Pinned.utf8First_eq] at h3
    rw [accept_eq] at h4
    exact utf8Tabs_of_readsT u8types u8Extra h3 h4
  · obtain ⟨g, t, cs, fuel, p, hg, hty, hvar, hd⟩ := Lib.laidMet.reads hm (n := "internal/strconv.uint64pow10") (d := Rows.laid_internal_strconv_uint64pow10) i3
    obtain rfl := Option.some.inj (gPow.symm.trans hg)
    obtain rfl := Option.some.inj (gPowType.symm.trans hty)
    unfold Pow Lib.TabIs
    rw [hvar, ← Lib.cells_of_tab Tryz.underlying184 Tryz.underlying128 cellsU64 cellsPow (zs := Lib.pow10Tab) hd]
theorem env_of_laid8 {W : World} (h : laidMetH Tryz.prog laid8 W) : JEnv W := by
  have h' : laidMet Tryz.prog laid7 W ∧ handlesMet Tryz.prog [("errors.errorType", Rows.laid_errors_errorType)] W := h
  exact env_of h'.1 h'.2 (by simp) (by simp) (by simp) (by simp) (by simp)
theorem env_of_laid {W : World} (h : laidMetH Tryz.prog laid10 W) : JEnv W ∧ Tabs W := by
  have h' : laidMet Tryz.prog laid9 W ∧ handlesMet Tryz.prog [("errors.errorType", Rows.laid_errors_errorType)] W := h
  obtain ⟨hm, hh⟩ := h'
  refine ⟨env_of hm hh (by simp) (by simp) (by simp) (by simp) (by simp), ⟨?_, ?_⟩⟩
  · obtain ⟨g, t, cs, fuel, p, hg, hty, hvar, hd⟩ := Lib.laidMet.reads hm (n := "roundelay/roundelaylaw03.words") (d := Rows.laid_roundelay_roundelaylaw03_words) (by simp)
    obtain rfl := Option.some.inj (gWords.symm.trans hg)
    obtain rfl := Option.some.inj (gWordsT.symm.trans hty)
    intro i hi
    obtain ⟨u, hu1, hu2⟩ := cells_of_strs (ws := [[], [97], [98], [97, 98], [0], [195, 169], [122, 0], [108, 111, 110, 103, 44, 32, 97, 110, 100, 32, 108, 111, 110, 103, 101, 114]]) Tryz.underlying72 hd i hi
    have h1 := World.var?_cell gWords hvar i
    rw [show cs[i]? = some (.string ⟨u.toArray⟩) by simpa using hu2] at h1
    rw [h1]
    match i, hi, hu1 with
    | 0, _, h => cases h; rfl
    | 1, _, h => cases h; rfl
    | 2, _, h => cases h; rfl
    | 3, _, h => cases h; rfl
    | 4, _, h => cases h; rfl
    | 5, _, h => cases h; rfl
    | 6, _, h => cases h; rfl
    | 7, _, h => cases h; rfl
  · obtain ⟨g, t, cs, fuel, p, hg, hty, hvar, hd⟩ := Lib.laidMet.reads hm (n := "roundelay/roundelaylaw03.names") (d := Rows.laid_roundelay_roundelaylaw03_names) (by simp)
    obtain rfl := Option.some.inj (gNames.symm.trans hg)
    obtain rfl := Option.some.inj (gNamesT.symm.trans hty)
    intro i hi
    obtain ⟨u, hu1, hu2⟩ := cells_of_strs (ws := [[97], [98], [99], [110]]) Tryz.underlying73 hd i hi
    have h1 := World.var?_cell gNames hvar i
    rw [show cs[i]? = some (.string ⟨u.toArray⟩) by simpa using hu2] at h1
    rw [h1]
    match i, hi, hu1 with
    | 0, _, h => cases h; rfl
    | 1, _, h => cases h; rfl
    | 2, _, h => cases h; rfl
    | 3, _, h => cases h; rfl

def putCells (cs : Array Value) : Obj → Obj
  | .cells _ t frozen => .cells cs t frozen
  | o => o
def tabFirst : Array Value := ((List.range 256).map fun c => Value.int .u8 (Lib.firstT c : Int)).toArray
def tab32 : Obj → Obj := (putCells #[.int .u8 0, .int .u8 1, .int .u8 28, .int .u8 2, .int .u8 29, .int .u8 14, .int .u8 24, .int .u8 3, .int .u8 30, .int .u8 22, .int .u8 20, .int .u8 15, .int .u8 25, .int .u8 17, .int .u8 4, .int .u8 8, .int .u8 31, .int .u8 27, .int .u8 13, .int .u8 23, .int .u8 21, .int .u8 19, .int .u8 16, .int .u8 7, .int .u8 26, .int .u8 12, .int .u8 18, .int .u8 6, .int .u8 11, .int .u8 5, .int .u8 10, .int .u8 9])
def tab64 : Obj → Obj := (putCells #[.int .u8 0, .int .u8 1, .int .u8 56, .int .u8 2, .int .u8 57, .int .u8 49, .int .u8 28, .int .u8 3, .int .u8 61, .int .u8 58, .int .u8 42, .int .u8 50, .int .u8 38, .int .u8 29, .int .u8 17, .int .u8 4, .int .u8 62, .int .u8 47, .int .u8 59, .int .u8 36, .int .u8 45, .int .u8 43, .int .u8 51, .int .u8 22, .int .u8 53, .int .u8 39, .int .u8 33, .int .u8 30, .int .u8 24, .int .u8 18, .int .u8 12, .int .u8 5, .int .u8 63, .int .u8 55, .int .u8 48, .int .u8 27, .int .u8 60, .int .u8 41, .int .u8 37, .int .u8 16, .int .u8 46, .int .u8 35, .int .u8 44, .int .u8 21, .int .u8 52, .int .u8 32, .int .u8 23, .int .u8 11, .int .u8 54, .int .u8 26, .int .u8 40, .int .u8 15, .int .u8 34, .int .u8 20, .int .u8 31, .int .u8 10, .int .u8 25, .int .u8 14, .int .u8 19, .int .u8 9, .int .u8 13, .int .u8 8, .int .u8 7, .int .u8 6])
def tabAcc : Obj → Obj := (putCells #[.int .u8 128, .int .u8 191, .int .u8 160, .int .u8 191, .int .u8 128, .int .u8 159, .int .u8 144, .int .u8 191, .int .u8 128, .int .u8 143, .int .u8 0, .int .u8 0, .int .u8 0, .int .u8 0, .int .u8 0, .int .u8 0, .int .u8 0, .int .u8 0, .int .u8 0, .int .u8 0, .int .u8 0, .int .u8 0, .int .u8 0, .int .u8 0, .int .u8 0, .int .u8 0, .int .u8 0, .int .u8 0, .int .u8 0, .int .u8 0, .int .u8 0, .int .u8 0])
def tabPow : Obj → Obj := (putCells #[.int .u64 1, .int .u64 10, .int .u64 100, .int .u64 1000, .int .u64 10000, .int .u64 100000, .int .u64 1000000, .int .u64 10000000, .int .u64 100000000, .int .u64 1000000000, .int .u64 10000000000, .int .u64 100000000000, .int .u64 1000000000000, .int .u64 10000000000000, .int .u64 100000000000000, .int .u64 1000000000000000, .int .u64 10000000000000000, .int .u64 100000000000000000, .int .u64 1000000000000000000, .int .u64 10000000000000000000])
def tabWords : Obj → Obj := (putCells #[.string (wordAt 0), .string (wordAt 1), .string (wordAt 2), .string (wordAt 3), .string (wordAt 4), .string (wordAt 5), .string (wordAt 6), .string (wordAt 7)])
def tabNames : Obj → Obj := (putCells #[.string (nameAt 0), .string (nameAt 1), .string (nameAt 2), .string (nameAt 3)])
def laidA (h : Array Obj) : Array Obj := (((h.modify 2 (putCells #[.iface 130 (.agg #[.pointer (some ⟨11, 35, none⟩)])])).modify 7 (putCells tabFirst)).modify 8 tabAcc).modify 4 tabPow
def laidB (h : Array Obj) : Array Obj := (((h.modify 9 tab32).modify 10 tab64).modify 0 tabWords).modify 1 tabNames
def laidC (h : Array Obj) : Array Obj := (((h.modify 6 (putCells #[.iface 199 (.pointer (some ⟨h.size, 0, none⟩))])).modify 5 (putCells #[.iface 199 (.pointer (some ⟨h.size + 1, 0, none⟩))])).push (.cells #[.string ⟨#[118, 97, 108, 117, 101, 32, 111, 117, 116, 32, 111, 102, 32, 114, 97, 110, 103, 101]⟩] 201 (0, 0))).push (.cells #[.string ⟨#[105, 110, 118, 97, 108, 105, 100, 32, 115, 121, 110, 116, 97, 120]⟩] 201 (0, 0))
/-- a world that meets the condition: the variables' cells laid. -/
def laidOn (w : World) : World := { w with heap := laidC (laidB (laidA w.heap)) }
theorem laidWorld_met (os : Os) (args : Array Value) : laidMetH Tryz.prog laid10 ((laidOn (World.holding Tryz.prog os ⟨#[], #[], []⟩)).forCall (fun _ _ => 0) ⟨#[], args, []⟩).memory :=
  laidMetH_of_parts (laidMet_of_run' 8 (by kernel_rfl) (by kernel_rfl)) (by kernel_rfl)
theorem laidWorld_met8 (os : Os) (args : Array Value) : laidMetH Tryz.prog laid8 ((laidOn (World.holding Tryz.prog os ⟨#[], #[], []⟩)).forCall (fun _ _ => 0) ⟨#[], args, []⟩).memory :=
  laidMetH_of_parts (laidMet_of_run' 8 (by kernel_rfl) (by kernel_rfl)) (by kernel_rfl)

set_option maxRecDepth 100000 in
open Go.ChangeShapes Go.WideShapes Go.ChangeAt in
/-- a slice of bytes that came in. -/
theorem open_bytesAt {H : Type} {enc : TypeId × Value → H} {W : World} {base : Nat} {v : Value} {d : DataW H} {p : List MemPlace} (hval : Value.okWide Tryz.prog W .any base 22 v) (h : DataW.Trod enc Tryz.prog W 0 (fun _ => true) true 22 v d p) : ∃ bs, BytesAt W v bs := by
  obtain ⟨a1, len, cap, rfl⟩ := okWide_slice Tryz.underlying22 hval
  obtain ⟨fuel, hf⟩ := h
  rcases open_ints Tryz.underlying22 Tryz.underlying5 cellsU8 hf with ⟨hcs, hx⟩ | ⟨a, len', cap', zs, hcs, _, hl, hm, hz, hx, hcell, hwz⟩
  · simp [Value.cells] at hcs
    obtain ⟨rfl, rfl, rfl⟩ := hcs
    exact ⟨[], none, 0, rfl, Nat.le_refl _, by omega, fun h => absurd rfl h⟩
  · simp [Value.cells] at hcs
    obtain ⟨rfl, rfl, rfl⟩ := hcs
    simp only [if_true] at hz
    have hlen : ((zs.take len).map fun n => UInt8.ofNat n.toNat).length = len := by simp; omega
    refine ⟨(zs.take len).map fun n => UInt8.ofNat n.toNat, some a, cap, by rw [hlen], by omega, by unfold maxLen at hm; omega, fun hne => ?_⟩
    have h0 : 0 < len := by
      rcases Nat.eq_zero_or_pos len with h | h
      · exact absurd (List.eq_nil_of_length_eq_zero (by rw [hlen]; exact h)) hne
      · exact h
    obtain ⟨ab, ao, spot⟩ := a
    have hspot : spot = none := by simpa [Addr.add] using World.cell?_spot (hcell 0 (by omega))
    subst hspot
    refine ⟨ab, ao, rfl, fun j u hj => ?_⟩
    have hjl : j < len := by rw [← hlen]; exact (List.getElem?_eq_some_iff.1 hj).1
    have hc := hcell j (by omega)
    rw [Addr.add_lit] at hc
    rw [hc]
    rw [List.getElem?_map, List.getElem?_take, if_pos hjl, List.getElem?_eq_getElem (by omega)] at hj
    simp only [Option.map_some, Option.some.injEq] at hj
    have hw := hwz zs[j] (List.getElem_mem _)
    have hb : 0 ≤ zs[j] ∧ zs[j] < 256 := by
      have h1 : IntKind.u8.min = 0 := rfl
      have h2 : IntKind.u8.max = 255 := rfl
      simp only [Lit.wf, Bool.and_eq_true, decide_eq_true_eq] at hw
      omega
    rw [show zs.getD j 0 = zs[j] by simp [List.getD, List.getElem?_eq_getElem (show j < zs.length by omega)], ← hj]
    congr 2
    rw [UInt8.toNat_ofNat']
    omega
end Go.Proofs.YtdcaohnaiepllaaGreatDoor

