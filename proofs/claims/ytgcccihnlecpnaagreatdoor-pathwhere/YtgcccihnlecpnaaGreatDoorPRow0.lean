/-
  What the rows of this seat share: the listed variables' cells. No conditions beyond those stated.
-/
import Derived.Test.YtgcccihnlecpnaaGreatDoorPEnv
import Derived.Shelf.Vars
import Derived.Test.YtgcccihnlecpnaaGreatDoorCards
import Derived.Test.YtgcccihnlecpnaaGreatDoorTie
import Derived.ProofKit
import Derived.OpenShut
import Derived.Carry
import Derived.LaidHandle
import Derived.LaidLaws
import Derived.Deep.DeepHandedRow
import Derived.Lib.LaidTab
import Derived.Lib.LaidU8T
import Derived.PinnedBridge
namespace Go.Proofs.YtgcccihnlecpnaaGreatDoor
open Go.RowKit Go.Extern.Stop Go.Stop Go.Extern

theorem own : ownKnob Tryz.prog.godebug = none := by kernel_rfl
theorem laidOut : laidOutB Tryz.prog = true := by kernel_rfl
theorem cellsStr : Tryz.prog.cellsOf 9 = 1 := by kernel_rfl
theorem cellsU8 : Tryz.prog.cellsOf 5 = 1 := by kernel_rfl

theorem cells_of_strs {H : Type} {enc : TypeId × Value → H} {w : World} {base : Nat} {sp : Nat → Bool} {held : Bool} {fuel : Nat} {t : TypeId} {n : Nat} {cs : List Value} {ws : List (List UInt8)} {p : List MemPlace}
    (ht : Tryz.prog.underlying t = some (.array n 9)) (h : DataW.trod enc Tryz.prog w base sp held fuel t cs = some (.agg (ws.map fun s => .lit (.string s)), p)) (i : Nat) (hi : i < n) : ∃ u, ws[i]? = some u ∧ cs[i]? = some (.string ⟨u.toArray⟩) := by
  obtain ⟨xs, m, _, hx, _, hl, he⟩ := DataW.trod_array ht h
  have h1 := he i hi
  rw [cellsStr, Nat.mul_one, List.getElem?_eq_getElem (by omega)] at h1
  obtain ⟨s, hc, hs, _⟩ := DataW.trod_string Tryz.underlying9 h1
  simp only [Prod.mk.injEq, DataW.agg.injEq] at hx
  have h2 : (xs.map (·.1))[i]? = some (.lit (.string s.data.toList)) := by rw [List.getElem?_map, List.getElem?_eq_getElem (by omega), hs]; rfl
  rw [← hx.1, List.getElem?_map] at h2
  obtain ⟨u, hu1, hu2⟩ := Option.map_eq_some_iff.1 h2
  simp only [DataW.lit.injEq, Lit.string.injEq] at hu2
  refine ⟨u, hu1, ?_⟩
  have h3 := congrArg (·[0]?) hc
  simp only [List.getElem?_take, List.getElem?_drop] at h3
  simp at h3
  rw [h3, hu2]


theorem et : Tryz.prog.globalNamed "errors.errorType" = some 2 := by kernel_rfl
theorem rt : (Tryz.prog.cutTypes.find? (·.1 == "internal/reflectlite.rtype")).map (·.2) = some 102 := by kernel_rfl
theorem oneRow : ((List.range 200).filter fun t => Tryz.prog.rowNamed t [101, 114, 114, 111, 114]) = [37] := by kernel_rfl
theorem tsize : Tryz.prog.types.size = 200 := by kernel_rfl
theorem gPowType : (Tryz.prog.globals[6]?).map (·.type) = some 151 := by kernel_rfl
theorem cellsPow : Tryz.prog.cellsOf 151 = 20 := by kernel_rfl
theorem cellsU64 : Tryz.prog.cellsOf 128 = 1 := by kernel_rfl

theorem handle_of_laid {W : World} (h : handlesMet Tryz.prog [("errors.errorType", Rows.laid_errors_errorType)] W) : Handle W := by
  obtain ⟨name, u, ty, e1, e2, e3, e4, e5⟩ := h _ (List.mem_singleton.2 rfl)
  have en : name = [101, 114, 114, 111, 114] := (Option.some.inj e1).symm
  subst en
  obtain rfl := Option.some.inj (rt.symm.trans e2)
  have hm : ty ∈ (List.range 200).filter fun t => Tryz.prog.rowNamed t [101, 114, 114, 111, 114] := List.mem_filter.2 ⟨List.mem_range.2 (by rw [← tsize]; exact e3), e4⟩
  rw [oneRow] at hm
  obtain rfl := List.mem_singleton.1 hm
  have hh : typeHandle Tryz.prog 37 = .pointer (some ⟨11, 37, none⟩) := by kernel_rfl
  rw [hh] at e5
  unfold Handle
  simpa using World.var?_cell et e5 0

theorem u8Extra : U8Extra Tryz.prog Tryz.laysValid_ren := ⟨by kernel_rfl, by kernel_rfl, by kernel_rfl, by kernel_rfl, by kernel_rfl, by kernel_rfl, by kernel_rfl⟩
theorem accept_eq : Rows.laid_unicode_utf8_acceptRanges = Lib.acceptData := by kernel_rfl
theorem gSyn : Tryz.prog.globalNamed "strconv.ErrSyntax" = some 7 := by kernel_rfl
theorem gRange : Tryz.prog.globalNamed "strconv.ErrRange" = some 8 := by kernel_rfl
theorem gSynT : (Tryz.prog.globals[7]?).map (·.type) = some 37 := by kernel_rfl
theorem gRangeT : (Tryz.prog.globals[8]?).map (·.type) = some 37 := by kernel_rfl

theorem err_cell {W : World} {ll : List (String × DataW Unit)} {n : String} {g : Nat} {d : DataW Unit} {nm : String} {y : DataW Unit} (hd0 : d = .iface nm y) (hm : laidMet Tryz.prog ll W) (hin : (n, d) ∈ ll) (hg : Tryz.prog.globalNamed n = some g) (ht : (Tryz.prog.globals[g]?).map (·.type) = some 37) :
    ∃ ev, W.cell? ⟨g, 0, none⟩ = some ev ∧ (ev = .nilIface ∨ ∃ te pe, ev = .iface te pe) := by
  obtain ⟨g', t, cs, fuel, p, hg', hty, hvar, hd⟩ := Lib.laidMet.reads hm (n := n) (d := d) hin
  obtain rfl := Option.some.inj (hg.symm.trans hg')
  obtain rfl := Option.some.inj (ht.symm.trans hty)
  subst hd0
  have h1 := World.var?_cell hg hvar 0
  obtain ⟨_, u, v, hcs, _, _⟩ := iface_of_trod Tryz.underlying37 hd
  have h2 : cs[0]? = some (.iface u v) := by
    have := congrArg (·[0]?) hcs
    simpa using this
  rw [h2] at h1
  exact ⟨_, h1, .inr ⟨u, v, rfl⟩⟩

theorem env_of {W : World} {ll : List (String × DataW Unit)} (hm : laidMet Tryz.prog ll W) (hh : handlesMet Tryz.prog [("errors.errorType", Rows.laid_errors_errorType)] W) (i1 : ("unicode/utf8.first", Rows.laid_unicode_utf8_first) ∈ ll) (i2 : ("unicode/utf8.acceptRanges", Rows.laid_unicode_utf8_acceptRanges) ∈ ll) (i3 : ("internal/strconv.uint64pow10", Rows.laid_internal_strconv_uint64pow10) ∈ ll) (i4 : ("strconv.ErrSyntax", Rows.laid_strconv_ErrSyntax) ∈ ll) (i5 : ("strconv.ErrRange", Rows.laid_strconv_ErrRange) ∈ ll) (hsh : W.ShapedOpen Tryz.prog) : PEnv W := by
  refine ⟨handle_of_laid hh, ?_, ?_, err_cell (d := Rows.laid_strconv_ErrSyntax) rfl hm i4 gSyn gSynT, err_cell (d := Rows.laid_strconv_ErrRange) rfl hm i5 gRange gRangeT, cell_of_shapedOpen_int (g := 5) (zero := #[.int .i64 0]) (t := 3) hsh (of_decide_eq_true (by kernel_rfl)) (by kernel_rfl) rfl (by kernel_rfl) (by kernel_rfl) Tryz.underlying3⟩
  · have h3 := Lib.laidMet.reads hm (n := "unicode/utf8.first") (d := Rows.laid_unicode_utf8_first) i1
    have h4 := Lib.laidMet.reads hm (n := "unicode/utf8.acceptRanges") (d := Rows.laid_unicode_utf8_acceptRanges) i2
    rw [show Rows.laid_unicode_utf8_first = Lib.firstData from Pinned.utf8First_eq] at h3
    rw [accept_eq] at h4
    exact utf8Tabs_of_readsT (U8Types.of196 Tryz.laysValid) u8Extra h3 h4
  · obtain ⟨g, t, cs, fuel, p, hg, hty, hvar, hd⟩ := Lib.laidMet.reads hm (n := "internal/strconv.uint64pow10") (d := Rows.laid_internal_strconv_uint64pow10) i3
    obtain rfl := Option.some.inj (gPow.symm.trans hg)
    obtain rfl := Option.some.inj (gPowType.symm.trans hty)
    unfold Pow Lib.TabIs
    rw [hvar, ← Lib.cells_of_tab Tryz.underlying151 Tryz.underlying128 cellsU64 cellsPow (zs := Lib.pow10Tab) hd]
def putCells (cs : Array Value) : Obj → Obj
  | .cells _ t frozen => .cells cs t frozen
  | o => o
def tabFirst : Array Value := ((List.range 256).map fun c => Value.int .u8 (Lib.firstT c : Int)).toArray
def tab32 : Obj → Obj := (putCells #[.int .u8 0, .int .u8 1, .int .u8 28, .int .u8 2, .int .u8 29, .int .u8 14, .int .u8 24, .int .u8 3, .int .u8 30, .int .u8 22, .int .u8 20, .int .u8 15, .int .u8 25, .int .u8 17, .int .u8 4, .int .u8 8, .int .u8 31, .int .u8 27, .int .u8 13, .int .u8 23, .int .u8 21, .int .u8 19, .int .u8 16, .int .u8 7, .int .u8 26, .int .u8 12, .int .u8 18, .int .u8 6, .int .u8 11, .int .u8 5, .int .u8 10, .int .u8 9])
def tab64 : Obj → Obj := (putCells #[.int .u8 0, .int .u8 1, .int .u8 56, .int .u8 2, .int .u8 57, .int .u8 49, .int .u8 28, .int .u8 3, .int .u8 61, .int .u8 58, .int .u8 42, .int .u8 50, .int .u8 38, .int .u8 29, .int .u8 17, .int .u8 4, .int .u8 62, .int .u8 47, .int .u8 59, .int .u8 36, .int .u8 45, .int .u8 43, .int .u8 51, .int .u8 22, .int .u8 53, .int .u8 39, .int .u8 33, .int .u8 30, .int .u8 24, .int .u8 18, .int .u8 12, .int .u8 5, .int .u8 63, .int .u8 55, .int .u8 48, .int .u8 27, .int .u8 60, .int .u8 41, .int .u8 37, .int .u8 16, .int .u8 46, .int .u8 35, .int .u8 44, .int .u8 21, .int .u8 52, .int .u8 32, .int .u8 23, .int .u8 11, .int .u8 54, .int .u8 26, .int .u8 40, .int .u8 15, .int .u8 34, .int .u8 20, .int .u8 31, .int .u8 10, .int .u8 25, .int .u8 14, .int .u8 19, .int .u8 9, .int .u8 13, .int .u8 8, .int .u8 7, .int .u8 6])
def tabAcc : Obj → Obj := (putCells #[.int .u8 128, .int .u8 191, .int .u8 160, .int .u8 191, .int .u8 128, .int .u8 159, .int .u8 144, .int .u8 191, .int .u8 128, .int .u8 143, .int .u8 0, .int .u8 0, .int .u8 0, .int .u8 0, .int .u8 0, .int .u8 0, .int .u8 0, .int .u8 0, .int .u8 0, .int .u8 0, .int .u8 0, .int .u8 0, .int .u8 0, .int .u8 0, .int .u8 0, .int .u8 0, .int .u8 0, .int .u8 0, .int .u8 0, .int .u8 0, .int .u8 0, .int .u8 0])
def tabPow : Obj → Obj := (putCells #[.int .u64 1, .int .u64 10, .int .u64 100, .int .u64 1000, .int .u64 10000, .int .u64 100000, .int .u64 1000000, .int .u64 10000000, .int .u64 100000000, .int .u64 1000000000, .int .u64 10000000000, .int .u64 100000000000, .int .u64 1000000000000, .int .u64 10000000000000, .int .u64 100000000000000, .int .u64 1000000000000000, .int .u64 10000000000000000, .int .u64 100000000000000000, .int .u64 1000000000000000000, .int .u64 10000000000000000000])
def laidA (h : Array Obj) : Array Obj := (((h.modify 2 (putCells #[.iface 102 (.agg #[.pointer (some ⟨11, 37, none⟩)])])).modify 3 (putCells tabFirst)).modify 4 tabAcc).modify 6 tabPow
def laidC (h : Array Obj) : Array Obj := (((h.modify 8 (putCells #[.iface 167 (.pointer (some ⟨h.size, 0, none⟩))])).modify 7 (putCells #[.iface 167 (.pointer (some ⟨h.size + 1, 0, none⟩))])).push (.cells #[.string ⟨#[118, 97, 108, 117, 101, 32, 111, 117, 116, 32, 111, 102, 32, 114, 97, 110, 103, 101]⟩] 169 (0, 0))).push (.cells #[.string ⟨#[105, 110, 118, 97, 108, 105, 100, 32, 115, 121, 110, 116, 97, 120]⟩] 169 (0, 0))
end Go.Proofs.YtgcccihnlecpnaaGreatDoor
