/-
  The law's awake: the document's examples. No conditions beyond those stated.
  What the rows of this seat share: the listed variables' cells, a world that lays them, slices of bytes that come in. No conditions beyond those stated.
  The law's Made at objects, by its contract. No conditions beyond those stated.
-/
import Derived.Test.YtnkoblhdbccbeaaGreatDoorU16
import Derived.Test.YtnkoblhdbccbeaaGreatDoorU10
import Derived.Test.YtnkoblhdbccbeaaGreatDoorU8
import Derived.Test.YtnkoblhdbccbeaaGreatDoorU11
import Derived.Test.YtnkoblhdbccbeaaGreatDoorCards
import Derived.Test.YtnkoblhdbccbeaaGreatDoorTie
import Derived.ProofKit
import Derived.OpenShut
import Derived.Carry
import Derived.LaidHandle
import Derived.LaidLaws
import Derived.Deep.DeepHandedRow
import Derived.Lib.LaidTab
import Derived.Lib.LaidU8T
import Derived.PinnedBridge
import Derived.Test.YtnkoblhdbccbeaaGreatDoorU13
import Derived.Deep.RegionLaw
namespace Go.Proofs.YtnkoblhdbccbeaaGreatDoor
open Go.RowKit Go.Extern.Stop Go.Stop Go.Extern

def aw1 : List UInt8 := [123, 34, 98, 34, 58, 49, 44, 32, 34, 97, 34, 58, 91, 93, 125]
def aw2 : List UInt8 := [49, 46, 48]
def aw3 : List UInt8 := [123, 34, 97, 34, 58, 49, 44, 34, 97, 34, 58, 50, 125]
def awV : V := objV [(⟨#[97]⟩, listV []), (⟨#[98]⟩, intV 1)]
set_option maxRecDepth 100000 in
theorem parse_aw1 : parseP aw1 = .ok awV := by kernel_rfl
set_option maxRecDepth 100000 in
theorem parse_aw2 : parseP aw2 = .error 4 := by kernel_rfl
set_option maxRecDepth 100000 in
theorem parse_aw3 : parseP aw3 = .error 5 := by kernel_rfl
theorem print_awV : printV 17 awV = [123, 34, 97, 34, 58, 91, 93, 44, 34, 98, 34, 58, 49, 125] := by kernel_rfl

theorem Flt.code {c : Int} {w : World} {x : Value} (h : Flt c w x) (hE : JEnv w) : Calls Tryz.prog 17 #[x] w fun e w' => e = .returned (.int .i64 c) ∧ Below w.heap.size w w' := by
  obtain ⟨ps, h⟩ := h
  exact Code_some ps c x w hE.text.handle h
theorem AnsP.fault {W w' : World} {c : Int} {e : Ending} (h : AnsP W (.error c) e w') : ∃ u z, e = .returned (.tuple #[zeroA, .iface u z]) ∧ Flt c w' (.iface u z) ∧ Below W.heap.size W w' := by
  obtain ⟨hb, x, e1, hx⟩ := h
  obtain ⟨u, z, rfl⟩ := hx.iface
  exact ⟨u, z, e1, hx, hb⟩
theorem AnsP.value {W w' : World} {v : V} {e : Ending} (h : AnsP W (.ok v) e w') : ∃ a1 c1 a2 c2, e = .returned (.tuple #[.agg #[.int .i64 v.kind, .int .i64 v.num, .string v.text, .slice a1 v.list.length c1, .slice a2 v.fields.length c2], .nilIface]) ∧ Rep (fun k => W.heap.size ≤ k) 16 w' v (.slice a1 v.list.length c1) (.slice a2 v.fields.length c2) ∧ Below W.heap.size W w' := by
  obtain ⟨hb, l, f, e1, hr⟩ := h
  obtain ⟨a1, c1, a2, c2, rfl, rfl⟩ := hr.slices
  exact ⟨a1, c1, a2, c2, e1, hr, hb⟩

theorem fit_aw : Fit 16 awV := by
  refine ⟨⟨by decide, by decide⟩, by decide, fun x hx => (by cases hx), fun p hp => ?_⟩
  rcases List.mem_cons.1 hp with rfl | hp
  · exact ⟨by decide, ⟨⟨by decide, by decide⟩, by decide, fun x hx => (by cases hx), fun p hp => (by cases hp)⟩⟩
  · rcases List.mem_cons.1 hp with rfl | hp
    · exact ⟨by decide, ⟨⟨by decide, by decide⟩, by decide, fun x hx => (by cases hx), fun p hp => (by cases hp)⟩⟩
    · cases hp

set_option maxRecDepth 100000 in
set_option maxHeartbeats 4000000 in
theorem awake_true (w : World) (hE : JEnv w) : Calls Tryz.prog 10 #[] w fun e w' => e = .returned (.bool true) ∧ Below w.heap.size w w' := by
  have hp1 := Parse_any ⟨#[123, 34, 98, 34, 58, 49, 44, 32, 34, 97, 34, 58, 91, 93, 125]⟩ w hE
  rw [show parseP (⟨#[123, 34, 98, 34, 58, 49, 44, 32, 34, 97, 34, 58, 91, 93, 125]⟩ : ByteArray).data.toList = .ok awV from parse_aw1] at hp1
  have hp2 := fun W (hW : Below w.heap.size w W) => Parse_any ⟨#[49, 46, 48]⟩ W (hE.below hW)
  have hp3 := fun W (hW : Below w.heap.size w W) => Parse_any ⟨#[123, 34, 97, 34, 58, 49, 44, 34, 97, 34, 58, 50, 125]⟩ W (hE.below hW)
  simp only [show parseP (⟨#[49, 46, 48]⟩ : ByteArray).data.toList = .error 4 from parse_aw2] at hp2
  simp only [show parseP (⟨#[123, 34, 97, 34, 58, 49, 44, 34, 97, 34, 58, 50, 125]⟩ : ByteArray).data.toList = .error 5 from parse_aw3] at hp3
  have HE := (show Hid _ from hE)
  clear hE
  go_enter Tryz.func10, Tryz.ntmps10
  go_wp2_with fail
  refine hp1.mono ?_
  intro e w1 h1
  obtain ⟨a1, c1, a2, c2, rfl, hr1, hb1⟩ := h1.value
  obtain ⟨v0, hv0⟩ : ∃ v, v = awV := ⟨_, rfl⟩
  rw [← hv0] at hr1 ⊢
  obtain ⟨O1, hO1⟩ : ∃ O, O = Obj.cells #[.int .i64 v0.kind, .int .i64 v0.num, .string v0.text, .slice a1 v0.list.length c1, .slice a2 v0.fields.length c2] 31 := ⟨_, rfl⟩
  have hB1 : Below w.heap.size w (w1.alloc O1) := hb1.alloc hb1.size _
  have hc2 := hp2 _ hB1
  rw [hO1] at hc2
  have H1 := (show Hid _ from And.intro hr1 (And.intro hb1 (And.intro hv0 (And.intro hO1 hB1))))
  clear hp1 hp2 h1 hr1 hb1 hv0 hO1 hB1
  go_wp2_with fail
  refine hc2.mono ?_
  intro e w2 h2
  obtain ⟨u2, z2, rfl, hx2, hb2⟩ := h2.fault
  obtain ⟨hr1, hb1, hv0, hO1, hB1⟩ := H1.out
  rw [← hO1] at hb2
  obtain ⟨O2, hO2⟩ : ∃ O, O = Obj.cells #[.int .i64 0, .int .i64 0, .string ⟨#[]⟩, .slice none 0 0, .slice none 0 0] 31 := ⟨_, rfl⟩
  have hB2 : Below w.heap.size w w2 := hB1.trans (hb2.mono hB1.size)
  have hB2' : Below w.heap.size w (w2.alloc O2) := hB2.alloc hB2.size _
  have hc3 := hp3 _ hB2'
  rw [hO2] at hc3
  have H2 := (show Hid _ from And.intro hx2 (And.intro hb2 (And.intro hO2 (And.intro hB2 hB2'))))
  clear hp3 hc2 h2 hr1 hb1 hv0 hO1 hB1 hx2 hb2 hO2 hB2 hB2'
  go_wp2_with fail
  refine hc3.mono ?_
  intro e w3 h3
  obtain ⟨u3, z3, rfl, hx3, hb3⟩ := h3.fault
  obtain ⟨hr1, hb1, hv0, hO1, hB1⟩ := H1.out
  obtain ⟨hx2, hb2, hO2, hB2, hB2'⟩ := H2.out
  rw [← hO2] at hb3
  obtain ⟨O3, hO3⟩ : ∃ O, O = Obj.cells #[.int .i64 0, .int .i64 0, .string ⟨#[]⟩, .slice none 0 0, .slice none 0 0] 31 := ⟨_, rfl⟩
  have hB3 : Below w.heap.size w w3 := hB2'.trans (hb3.mono hB2'.size)
  have hB3' : Below w.heap.size w (w3.alloc O3) := hB3.alloc hB3.size _
  have hA1 : Below w1.heap.size w1 (w1.alloc O1) := (Below.refl _ _).alloc (Nat.le_refl _) _
  have hA2 : Below w2.heap.size w2 (w2.alloc O2) := (Below.refl _ _).alloc (Nat.le_refl _) _
  have hA3 : Below w3.heap.size w3 (w3.alloc O3) := (Below.refl _ _).alloc (Nat.le_refl _) _
  have h12 : Below (w1.alloc O1).heap.size (w1.alloc O1) w3 := (hb2.trans (hA2.mono hb2.size)).trans (hb3.mono (Nat.le_trans hb2.size hA2.size))
  have h23 : Below w2.heap.size w2 (w3.alloc O3) := (hA2.trans (hb3.mono hA2.size)).trans (hA3.mono (Nat.le_trans hA2.size hb3.size))
  have r1 : w3.heap[w1.heap.size]? = some (.cells #[.int .i64 v0.kind, .int .i64 v0.num, .string v0.text, .slice a1 v0.list.length c1, .slice a2 v0.fields.length c2] 31 (0, 0)) := by rw [h12.block _ (by simp), heap_alloc_new, hO1]
  obtain ⟨j0, j1, j2, j3, j4, jf⟩ := row5 r1
  have hlt1 := lt_of_heap r1
  have hl3 : Lies 16 (w3.alloc O3) v0 (.slice a1 v0.list.length c1) (.slice a2 v0.fields.length c2) := (((hr1.below hA1).below h12).below hA3).lies
  have hpr := Print_any 16 v0 _ _ _ (HE.out.below hB3') hl3 (by rw [hv0]; exact fit_aw) (by rw [hv0, print_awV]; decide)
  rw [show printV (16 + 1) v0 = _ from (congrArg (printV 17) hv0).trans print_awV, hO3] at hpr
  have hcx2 := fun W (hW : Below (w3.alloc O3).heap.size (w3.alloc O3) W) => (hx2.below (h23.trans (hW.mono h23.size))).code (HE.out.below (hB3'.trans (hW.mono hB3'.size)))
  have hcx3 := fun W (hW : Below (w3.alloc O3).heap.size (w3.alloc O3) W) => (hx3.below (hA3.trans (hW.mono hA3.size))).code (HE.out.below (hB3'.trans (hW.mono hB3'.size)))
  rw [hO3] at hcx2 hcx3
  have H3 := (show Hid _ from And.intro hB3' hO3)
  clear hc3 h3 hr1 hb1 hv0 hO1 hB1 hx2 hb2 hO2 hB2 hB2' hx3 hb3 hO3 hB3 hB3' hA1 hA2 hA3 h12 h23 r1 hl3
  go_wp2_with fail
  refine hpr.mono ?_
  rintro e w4 ⟨rfl, hb4⟩
  go_wp2_with fail
  refine (hcx2 _ hb4).mono ?_
  rintro e w5 ⟨rfl, hb5⟩
  have hb45 := hb4.trans (hb5.mono hb4.size)
  go_wp2_with fail
  refine (hcx3 _ hb45).mono ?_
  rintro e w6 ⟨rfl, hb6⟩
  go_wp2_with fail
  go_ret
  obtain ⟨hB3', hO3⟩ := H3.out
  rw [← hO3] at hb45
  exact ⟨rfl, (hB3'.trans (hb45.mono hB3'.size)).trans (hb6.mono (Nat.le_trans hB3'.size hb45.size))⟩
end Go.Proofs.YtnkoblhdbccbeaaGreatDoor

namespace Go.Proofs.YtnkoblhdbccbeaaGreatDoor
open Go.RowKit Go.Extern.Stop Go.Stop Go.Extern

theorem own : ownKnob Tryz.prog.godebug = none := by kernel_rfl
theorem laidOut : laidOutB Tryz.prog = true := by kernel_rfl
theorem cellsStr : Tryz.prog.cellsOf 9 = 1 := by kernel_rfl
theorem cellsU8 : Tryz.prog.cellsOf 5 = 1 := by kernel_rfl

theorem cells_of_strs {H : Type} {enc : TypeId × Value → H} {w : World} {base : Nat} {sp : Nat → Bool} {held : Bool} {fuel : Nat} {t : TypeId} {n : Nat} {cs : List Value} {ws : List (List UInt8)} {p : List MemPlace}
    (ht : Tryz.prog.underlying t = some (.array n 9)) (h : DataW.trod enc Tryz.prog w base sp held fuel t cs = some (.agg (ws.map fun s => .lit (.string s)), p)) (i : Nat) (hi : i < n) : ∃ u, ws[i]? = some u ∧ cs[i]? = some (.string ⟨u.toArray⟩) := by
  obtain ⟨xs, m, _, hx, _, hl, he⟩ := DataW.trod_array ht h
  have h1 := he i hi
  rw [cellsStr, Nat.mul_one, List.getElem?_eq_getElem (by omega)] at h1
  obtain ⟨s, hc, hs, _⟩ := DataW.trod_string Tryz.underlying9 h1
  simp only [Prod.mk.injEq, DataW.agg.injEq] at hx
  have h2 : (xs.map (·.1))[i]? = some (.lit (.string s.data.toList)) := by rw [List.getElem?_map, List.getElem?_eq_getElem (by omega), hs]; rfl
  rw [← hx.1, List.getElem?_map] at h2
  obtain ⟨u, hu1, hu2⟩ := Option.map_eq_some_iff.1 h2
  simp only [DataW.lit.injEq, Lit.string.injEq] at hu2
  refine ⟨u, hu1, ?_⟩
  have h3 := congrArg (·[0]?) hc
  simp only [List.getElem?_take, List.getElem?_drop] at h3
  simp at h3
  rw [h3, hu2]


theorem et : Tryz.prog.globalNamed "errors.errorType" = some 2 := by kernel_rfl
theorem rt : (Tryz.prog.cutTypes.find? (·.1 == "internal/reflectlite.rtype")).map (·.2) = some 138 := by kernel_rfl
theorem oneRow : ((List.range 243).filter fun t => Tryz.prog.rowNamed t [101, 114, 114, 111, 114]) = [35] := by kernel_rfl
theorem tsize : Tryz.prog.types.size = 243 := by kernel_rfl
theorem gPowType : (Tryz.prog.globals[6]?).map (·.type) = some 197 := by kernel_rfl
theorem cellsPow : Tryz.prog.cellsOf 197 = 20 := by kernel_rfl
theorem cellsU64 : Tryz.prog.cellsOf 136 = 1 := by kernel_rfl

theorem handle_of_laid {W : World} (h : handlesMet Tryz.prog [("errors.errorType", Rows.laid_errors_errorType)] W) : Handle W := by
  obtain ⟨name, u, ty, e1, e2, e3, e4, e5⟩ := h _ (List.mem_singleton.2 rfl)
  have en : name = [101, 114, 114, 111, 114] := (Option.some.inj e1).symm
  subst en
  obtain rfl := Option.some.inj (rt.symm.trans e2)
  have hm : ty ∈ (List.range 243).filter fun t => Tryz.prog.rowNamed t [101, 114, 114, 111, 114] := List.mem_filter.2 ⟨List.mem_range.2 (by rw [← tsize]; exact e3), e4⟩
  rw [oneRow] at hm
  obtain rfl := List.mem_singleton.1 hm
  have hh : typeHandle Tryz.prog 35 = .pointer (some ⟨11, 35, none⟩) := by kernel_rfl
  rw [hh] at e5
  unfold Handle
  simpa using World.var?_cell et e5 0

theorem u8Extra : U8Extra Tryz.prog Tryz.laysValid_ren := ⟨by kernel_rfl, by kernel_rfl, by kernel_rfl, by kernel_rfl, by kernel_rfl, by kernel_rfl, by kernel_rfl⟩
theorem accept_eq : Rows.laid_unicode_utf8_acceptRanges = Lib.acceptData := by kernel_rfl
theorem gWords : Tryz.prog.globalNamed "roundelay/roundelaylaw03.words" = some 0 := by kernel_rfl
theorem gNames : Tryz.prog.globalNamed "roundelay/roundelaylaw03.names" = some 1 := by kernel_rfl
theorem gWordsT : (Tryz.prog.globals[0]?).map (·.type) = some 81 := by kernel_rfl
theorem gNamesT : (Tryz.prog.globals[1]?).map (·.type) = some 82 := by kernel_rfl
theorem gSyn : Tryz.prog.globalNamed "strconv.ErrSyntax" = some 7 := by kernel_rfl
theorem gRange : Tryz.prog.globalNamed "strconv.ErrRange" = some 8 := by kernel_rfl
theorem gSynT : (Tryz.prog.globals[7]?).map (·.type) = some 35 := by kernel_rfl
theorem gRangeT : (Tryz.prog.globals[8]?).map (·.type) = some 35 := by kernel_rfl

abbrev laid9 : List (String × DataW Unit) := [("math/bits.deBruijn32tab", Rows.laid_math_bits_deBruijn32tab), ("math/bits.deBruijn64tab", Rows.laid_math_bits_deBruijn64tab), ("internal/strconv.uint64pow10", Rows.laid_internal_strconv_uint64pow10), ("unicode/utf8.acceptRanges", Rows.laid_unicode_utf8_acceptRanges), ("strconv.ErrRange", Rows.laid_strconv_ErrRange), ("strconv.ErrSyntax", Rows.laid_strconv_ErrSyntax), ("roundelay/roundelaylaw03.words", Rows.laid_roundelay_roundelaylaw03_words), ("roundelay/roundelaylaw03.names", Rows.laid_roundelay_roundelaylaw03_names), ("unicode/utf8.first", Rows.laid_unicode_utf8_first)]
abbrev laid10 : List (String × DataW Unit) := [("math/bits.deBruijn32tab", Rows.laid_math_bits_deBruijn32tab), ("math/bits.deBruijn64tab", Rows.laid_math_bits_deBruijn64tab), ("internal/strconv.uint64pow10", Rows.laid_internal_strconv_uint64pow10), ("unicode/utf8.acceptRanges", Rows.laid_unicode_utf8_acceptRanges), ("errors.errorType", Rows.laid_errors_errorType), ("strconv.ErrRange", Rows.laid_strconv_ErrRange), ("strconv.ErrSyntax", Rows.laid_strconv_ErrSyntax), ("roundelay/roundelaylaw03.words", Rows.laid_roundelay_roundelaylaw03_words), ("roundelay/roundelaylaw03.names", Rows.laid_roundelay_roundelaylaw03_names), ("unicode/utf8.first", Rows.laid_unicode_utf8_first)]
abbrev laid7 : List (String × DataW Unit) := [("math/bits.deBruijn32tab", Rows.laid_math_bits_deBruijn32tab), ("math/bits.deBruijn64tab", Rows.laid_math_bits_deBruijn64tab), ("internal/strconv.uint64pow10", Rows.laid_internal_strconv_uint64pow10), ("unicode/utf8.acceptRanges", Rows.laid_unicode_utf8_acceptRanges), ("strconv.ErrRange", Rows.laid_strconv_ErrRange), ("strconv.ErrSyntax", Rows.laid_strconv_ErrSyntax), ("unicode/utf8.first", Rows.laid_unicode_utf8_first)]
abbrev laid8 : List (String × DataW Unit) := [("math/bits.deBruijn32tab", Rows.laid_math_bits_deBruijn32tab), ("math/bits.deBruijn64tab", Rows.laid_math_bits_deBruijn64tab), ("internal/strconv.uint64pow10", Rows.laid_internal_strconv_uint64pow10), ("unicode/utf8.acceptRanges", Rows.laid_unicode_utf8_acceptRanges), ("errors.errorType", Rows.laid_errors_errorType), ("strconv.ErrRange", Rows.laid_strconv_ErrRange), ("strconv.ErrSyntax", Rows.laid_strconv_ErrSyntax), ("unicode/utf8.first", Rows.laid_unicode_utf8_first)]

theorem err_cell {W : World} {ll : List (String × DataW Unit)} {n : String} {g : Nat} {d : DataW Unit} {nm : String} {y : DataW Unit} (hd0 : d = .iface nm y) (hm : laidMet Tryz.prog ll W) (hin : (n, d) ∈ ll) (hg : Tryz.prog.globalNamed n = some g) (ht : (Tryz.prog.globals[g]?).map (·.type) = some 35) :
    ∃ ev, W.cell? ⟨g, 0, none⟩ = some ev ∧ (ev = .nilIface ∨ ∃ te pe, ev = .iface te pe) := by
  obtain ⟨g', t, cs, fuel, p, hg', hty, hvar, hd⟩ := Lib.laidMet.reads hm (n := n) (d := d) hin
  obtain rfl := Option.some.inj (hg.symm.trans hg')
  obtain rfl := Option.some.inj (ht.symm.trans hty)
  subst hd0
  have h1 := World.var?_cell hg hvar 0
  obtain ⟨_, u, v, hcs, _, _⟩ := iface_of_trod Tryz.underlying35 hd
  have h2 : cs[0]? = some (.iface u v) := by
    have := congrArg (·[0]?) hcs
    simpa using this
  rw [h2] at h1
  exact ⟨_, h1, .inr ⟨u, v, rfl⟩⟩

theorem env_of {W : World} {ll : List (String × DataW Unit)} (hm : laidMet Tryz.prog ll W) (hh : handlesMet Tryz.prog [("errors.errorType", Rows.laid_errors_errorType)] W) (i1 : ("unicode/utf8.first", Rows.laid_unicode_utf8_first) ∈ ll) (i2 : ("unicode/utf8.acceptRanges", Rows.laid_unicode_utf8_acceptRanges) ∈ ll) (i3 : ("internal/strconv.uint64pow10", Rows.laid_internal_strconv_uint64pow10) ∈ ll) (i4 : ("strconv.ErrSyntax", Rows.laid_strconv_ErrSyntax) ∈ ll) (i5 : ("strconv.ErrRange", Rows.laid_strconv_ErrRange) ∈ ll) : JEnv W := by
  refine ⟨⟨handle_of_laid hh, ?_, ?_⟩, err_cell (d := Rows.laid_strconv_ErrSyntax) rfl hm i4 gSyn gSynT, err_cell (d := Rows.laid_strconv_ErrRange) rfl hm i5 gRange gRangeT⟩
  · have h3 := Lib.laidMet.reads hm (n := "unicode/utf8.first") (d := Rows.laid_unicode_utf8_first) i1
    have h4 := Lib.laidMet.reads hm (n := "unicode/utf8.acceptRanges") (d := Rows.laid_unicode_utf8_acceptRanges) i2
    rw [show Rows.laid_unicode_utf8_first = Lib.firstData from Pinned.utf8First_eq] at h3
    rw [accept_eq] at h4
    exact utf8Tabs_of_readsT (U8Types.of196 Tryz.laysValid) u8Extra h3 h4
  · obtain ⟨g, t, cs, fuel, p, hg, hty, hvar, hd⟩ := Lib.laidMet.reads hm (n := "internal/strconv.uint64pow10") (d := Rows.laid_internal_strconv_uint64pow10) i3
    obtain rfl := Option.some.inj (gPow.symm.trans hg)
    obtain rfl := Option.some.inj (gPowType.symm.trans hty)
    unfold Pow Lib.TabIs
    rw [hvar, ← Lib.cells_of_tab Tryz.underlying197 Tryz.underlying136 cellsU64 cellsPow (zs := Lib.pow10Tab) hd]
theorem env_of_laid8 {W : World} (h : laidMetH Tryz.prog laid8 W) : JEnv W := by
  have h' : laidMet Tryz.prog laid7 W ∧ handlesMet Tryz.prog [("errors.errorType", Rows.laid_errors_errorType)] W := h
  exact env_of h'.1 h'.2 (by simp) (by simp) (by simp) (by simp) (by simp)
theorem env_of_laid {W : World} (h : laidMetH Tryz.prog laid10 W) : JEnv W ∧ Tabs W := by
  have h' : laidMet Tryz.prog laid9 W ∧ handlesMet Tryz.prog [("errors.errorType", Rows.laid_errors_errorType)] W := h
  obtain ⟨hm, hh⟩ := h'
  refine ⟨env_of hm hh (by simp) (by simp) (by simp) (by simp) (by simp), ⟨?_, ?_⟩⟩
  · obtain ⟨g, t, cs, fuel, p, hg, hty, hvar, hd⟩ := Lib.laidMet.reads hm (n := "roundelay/roundelaylaw03.words") (d := Rows.laid_roundelay_roundelaylaw03_words) (by simp)
    obtain rfl := Option.some.inj (gWords.symm.trans hg)
    obtain rfl := Option.some.inj (gWordsT.symm.trans hty)
    intro i hi
    obtain ⟨u, hu1, hu2⟩ := cells_of_strs (ws := [[], [97], [98], [97, 98], [0], [195, 169], [122, 0], [108, 111, 110, 103, 44, 32, 97, 110, 100, 32, 108, 111, 110, 103, 101, 114]]) Tryz.underlying81 hd i hi
    have h1 := World.var?_cell gWords hvar i
    rw [show cs[i]? = some (.string ⟨u.toArray⟩) by simpa using hu2] at h1
    rw [h1]
    match i, hi, hu1 with
    | 0, _, h => cases h; rfl
    | 1, _, h => cases h; rfl
    | 2, _, h => cases h; rfl
    | 3, _, h => cases h; rfl
    | 4, _, h => cases h; rfl
    | 5, _, h => cases h; rfl
    | 6, _, h => cases h; rfl
    | 7, _, h => cases h; rfl
  · obtain ⟨g, t, cs, fuel, p, hg, hty, hvar, hd⟩ := Lib.laidMet.reads hm (n := "roundelay/roundelaylaw03.names") (d := Rows.laid_roundelay_roundelaylaw03_names) (by simp)
    obtain rfl := Option.some.inj (gNames.symm.trans hg)
    obtain rfl := Option.some.inj (gNamesT.symm.trans hty)
    intro i hi
    obtain ⟨u, hu1, hu2⟩ := cells_of_strs (ws := [[97], [98], [99], [110]]) Tryz.underlying82 hd i hi
    have h1 := World.var?_cell gNames hvar i
    rw [show cs[i]? = some (.string ⟨u.toArray⟩) by simpa using hu2] at h1
    rw [h1]
    match i, hi, hu1 with
    | 0, _, h => cases h; rfl
    | 1, _, h => cases h; rfl
    | 2, _, h => cases h; rfl
    | 3, _, h => cases h; rfl

def putCells (cs : Array Value) : Obj → Obj
  | .cells _ t frozen => .cells cs t frozen
  | o => o
def tabFirst : Array Value := ((List.range 256).map fun c => Value.int .u8 (Lib.firstT c : Int)).toArray
def tab32 : Obj → Obj := (putCells #[.int .u8 0, .int .u8 1, .int .u8 28, .int .u8 2, .int .u8 29, .int .u8 14, .int .u8 24, .int .u8 3, .int .u8 30, .int .u8 22, .int .u8 20, .int .u8 15, .int .u8 25, .int .u8 17, .int .u8 4, .int .u8 8, .int .u8 31, .int .u8 27, .int .u8 13, .int .u8 23, .int .u8 21, .int .u8 19, .int .u8 16, .int .u8 7, .int .u8 26, .int .u8 12, .int .u8 18, .int .u8 6, .int .u8 11, .int .u8 5, .int .u8 10, .int .u8 9])
def tab64 : Obj → Obj := (putCells #[.int .u8 0, .int .u8 1, .int .u8 56, .int .u8 2, .int .u8 57, .int .u8 49, .int .u8 28, .int .u8 3, .int .u8 61, .int .u8 58, .int .u8 42, .int .u8 50, .int .u8 38, .int .u8 29, .int .u8 17, .int .u8 4, .int .u8 62, .int .u8 47, .int .u8 59, .int .u8 36, .int .u8 45, .int .u8 43, .int .u8 51, .int .u8 22, .int .u8 53, .int .u8 39, .int .u8 33, .int .u8 30, .int .u8 24, .int .u8 18, .int .u8 12, .int .u8 5, .int .u8 63, .int .u8 55, .int .u8 48, .int .u8 27, .int .u8 60, .int .u8 41, .int .u8 37, .int .u8 16, .int .u8 46, .int .u8 35, .int .u8 44, .int .u8 21, .int .u8 52, .int .u8 32, .int .u8 23, .int .u8 11, .int .u8 54, .int .u8 26, .int .u8 40, .int .u8 15, .int .u8 34, .int .u8 20, .int .u8 31, .int .u8 10, .int .u8 25, .int .u8 14, .int .u8 19, .int .u8 9, .int .u8 13, .int .u8 8, .int .u8 7, .int .u8 6])
def tabAcc : Obj → Obj := (putCells #[.int .u8 128, .int .u8 191, .int .u8 160, .int .u8 191, .int .u8 128, .int .u8 159, .int .u8 144, .int .u8 191, .int .u8 128, .int .u8 143, .int .u8 0, .int .u8 0, .int .u8 0, .int .u8 0, .int .u8 0, .int .u8 0, .int .u8 0, .int .u8 0, .int .u8 0, .int .u8 0, .int .u8 0, .int .u8 0, .int .u8 0, .int .u8 0, .int .u8 0, .int .u8 0, .int .u8 0, .int .u8 0, .int .u8 0, .int .u8 0, .int .u8 0, .int .u8 0])
def tabPow : Obj → Obj := (putCells #[.int .u64 1, .int .u64 10, .int .u64 100, .int .u64 1000, .int .u64 10000, .int .u64 100000, .int .u64 1000000, .int .u64 10000000, .int .u64 100000000, .int .u64 1000000000, .int .u64 10000000000, .int .u64 100000000000, .int .u64 1000000000000, .int .u64 10000000000000, .int .u64 100000000000000, .int .u64 1000000000000000, .int .u64 10000000000000000, .int .u64 100000000000000000, .int .u64 1000000000000000000, .int .u64 10000000000000000000])
def tabWords : Obj → Obj := (putCells #[.string (wordAt 0), .string (wordAt 1), .string (wordAt 2), .string (wordAt 3), .string (wordAt 4), .string (wordAt 5), .string (wordAt 6), .string (wordAt 7)])
def tabNames : Obj → Obj := (putCells #[.string (nameAt 0), .string (nameAt 1), .string (nameAt 2), .string (nameAt 3)])
def laidA (h : Array Obj) : Array Obj := (((h.modify 2 (putCells #[.iface 138 (.agg #[.pointer (some ⟨11, 35, none⟩)])])).modify 3 (putCells tabFirst)).modify 4 tabAcc).modify 6 tabPow
def laidB (h : Array Obj) : Array Obj := (((h.modify 9 tab32).modify 10 tab64).modify 0 tabWords).modify 1 tabNames
def laidC (h : Array Obj) : Array Obj := (((h.modify 8 (putCells #[.iface 208 (.pointer (some ⟨h.size, 0, none⟩))])).modify 7 (putCells #[.iface 208 (.pointer (some ⟨h.size + 1, 0, none⟩))])).push (.cells #[.string ⟨#[118, 97, 108, 117, 101, 32, 111, 117, 116, 32, 111, 102, 32, 114, 97, 110, 103, 101]⟩] 210 (0, 0))).push (.cells #[.string ⟨#[105, 110, 118, 97, 108, 105, 100, 32, 115, 121, 110, 116, 97, 120]⟩] 210 (0, 0))
/-- a world that meets the condition: the variables' cells laid. -/
def laidOn (w : World) : World := { w with heap := laidC (laidB (laidA w.heap)) }
theorem laidWorld_met (os : Os) (args : Array Value) : laidMetH Tryz.prog laid10 ((laidOn (World.holding Tryz.prog os ⟨#[], #[], []⟩)).forCall (fun _ _ => 0) ⟨#[], args, []⟩).memory :=
  laidMetH_of_parts (laidMet_of_run' 8 (by kernel_rfl) (by kernel_rfl)) (by kernel_rfl)
theorem laidWorld_met8 (os : Os) (args : Array Value) : laidMetH Tryz.prog laid8 ((laidOn (World.holding Tryz.prog os ⟨#[], #[], []⟩)).forCall (fun _ _ => 0) ⟨#[], args, []⟩).memory :=
  laidMetH_of_parts (laidMet_of_run' 8 (by kernel_rfl) (by kernel_rfl)) (by kernel_rfl)

set_option maxRecDepth 100000 in
open Go.ChangeShapes Go.WideShapes Go.ChangeAt in
/-- a slice of bytes that came in. -/
theorem open_bytesAt {H : Type} {enc : TypeId × Value → H} {W : World} {base : Nat} {v : Value} {d : DataW H} {p : List MemPlace} (hval : Value.okWide Tryz.prog W .any base 22 v) (h : DataW.Trod enc Tryz.prog W 0 (fun _ => true) true 22 v d p) : ∃ bs, BytesAt W v bs := by
  obtain ⟨a1, len, cap, rfl⟩ := okWide_slice Tryz.underlying22 hval
  obtain ⟨fuel, hf⟩ := h
  rcases open_ints Tryz.underlying22 Tryz.underlying5 cellsU8 hf with ⟨hcs, hx⟩ | ⟨a, len', cap', zs, hcs, _, hl, hm, hz, hx, hcell, hwz⟩
  · simp [Value.cells] at hcs
    obtain ⟨rfl, rfl, rfl⟩ := hcs
    exact ⟨[], none, 0, rfl, Nat.le_refl _, by omega, fun h => absurd rfl h⟩
  · simp [Value.cells] at hcs
    obtain ⟨rfl, rfl, rfl⟩ := hcs
    simp only [if_true] at hz
    have hlen : ((zs.take len).map fun n => UInt8.ofNat n.toNat).length = len := by simp; omega
    refine ⟨(zs.take len).map fun n => UInt8.ofNat n.toNat, some a, cap, by rw [hlen], by omega, by unfold maxLen at hm; omega, fun hne => ?_⟩
    have h0 : 0 < len := by
      rcases Nat.eq_zero_or_pos len with h | h
      · exact absurd (List.eq_nil_of_length_eq_zero (by rw [hlen]; exact h)) hne
      · exact h
    obtain ⟨ab, ao, spot⟩ := a
    have hspot : spot = none := by simpa [Addr.add] using World.cell?_spot (hcell 0 (by omega))
    subst hspot
    refine ⟨ab, ao, rfl, fun j u hj => ?_⟩
    have hjl : j < len := by rw [← hlen]; exact (List.getElem?_eq_some_iff.1 hj).1
    have hc := hcell j (by omega)
    rw [Addr.add_lit] at hc
    rw [hc]
    rw [List.getElem?_map, List.getElem?_take, if_pos hjl, List.getElem?_eq_getElem (by omega)] at hj
    simp only [Option.map_some, Option.some.injEq] at hj
    have hw := hwz zs[j] (List.getElem_mem _)
    have hb : 0 ≤ zs[j] ∧ zs[j] < 256 := by
      have h1 : IntKind.u8.min = 0 := rfl
      have h2 : IntKind.u8.max = 255 := rfl
      simp only [Lit.wf, Bool.and_eq_true, decide_eq_true_eq] at hw
      omega
    rw [show zs.getD j 0 = zs[j] by simp [List.getD, List.getElem?_eq_getElem (show j < zs.length by omega)], ← hj]
    congr 2
    rw [UInt8.toNat_ofNat']
    omega
end Go.Proofs.YtnkoblhdbccbeaaGreatDoor

namespace Go.Proofs.YtnkoblhdbccbeaaGreatDoor
open Go.RowKit

/-- the elements that were made so far: a list that grows. -/
structure GrowsF (d : Nat) (W : World) (B : Nat) (s : Value) (es : List Fl) : Prop where
  own : W.ownsRow (B + 1) 52 6 s es.length (encFs es)
  nice : ∀ e ∈ es, Nice d e.v
  rep : ∀ e ∈ es, Rep (fun b => B < b ∧ s.ownBlock ≠ some b) d W e.v e.l e.f
theorem GrowsF.move {d B : Nat} {W W' : World} {s : Value} {es : List Fl} (h : GrowsF d W B s es) (hm : ∀ b, B < b → b < W.heap.size → W'.heap[b]? = W.heap[b]?) : GrowsF d W' B s es :=
  ⟨ownsRow_move (fun b hb hl => ⟨(h.own.lt b hb).1, hm b (by have := (h.own.lt b hb).1; omega) hl⟩) h.own, h.nice, fun e he => (h.rep e he).move fun b hb hl => ⟨hb, hm b hb.1 hl⟩⟩
theorem GrowsF.step {d B : Nat} {W3 : World} {sl v' : Value} {es : List Fl} {nm : ByteArray} {x : V} {l f : Value} {W2 : World} (h : GrowsF d W2 B sl es) (hx : Nice d x) (hrep : Rep (fun b => B < b ∧ sl.ownBlock ≠ some b) d W2 x l f)
    (hown : W3.ownsRow (B + 1) 52 6 v' (es.length + 1) (encFs es ++ [.string nm, .int .i64 x.kind, .int .i64 x.num, .string x.text, l, f])) (hg : W2.grownBy W3 sl.ownBlock) (hv : sl.ownBlock = v'.ownBlock ∨ v'.ownBlock = some W2.heap.size) : GrowsF d W3 B v' (es ++ [⟨nm, x, l, f⟩]) := by
  have hm : ∀ b, (B < b ∧ sl.ownBlock ≠ some b) → b < W2.heap.size → (B < b ∧ v'.ownBlock ≠ some b) ∧ W3.heap[b]? = W2.heap[b]? := by
    intro b h1 h2
    refine ⟨⟨h1.1, ?_⟩, hg.block b h2 (fun e => h1.2 e.symm)⟩
    rcases hv with e | e
    · rw [← e]; exact h1.2
    · rw [e]
      intro e2
      have := Option.some.inj e2
      omega
  refine ⟨?_, ?_, ?_⟩
  · rw [encFs_append, List.length_append]; exact hown
  · intro e he
    rcases List.mem_append.1 he with he | he
    · exact h.nice e he
    · rw [List.mem_singleton.1 he]; exact hx
  · intro e he
    rcases List.mem_append.1 he with he | he
    · exact (h.rep e he).move hm
    · rw [List.mem_singleton.1 he]; exact hrep.move hm

set_option maxRecDepth 100000 in
set_option maxHeartbeats 4000000 in
theorem Made_obj (d : Nat) (D : Int) (hD : 1 < D) (hD2 : D ≤ 1000) (ih : MakesAt d (D - 1)) (u : UInt8) (bs : List UInt8) (a : Option Addr) (cap : Nat) (w : World) (hb : BytesAt w (.slice a (u :: bs).length cap) (u :: bs)) (hT : Tabs w) (hr : (u.toNat : Int) % 6 = 5) : Calls Tryz.prog 25 #[.slice a (u :: bs).length cap, .int .i64 D] w
    fun e w' => ∃ x l f r, e = .returned (.tuple #[.agg #[.int .i64 x.kind, .int .i64 x.num, .string x.text, l, f], r]) ∧ (MadeV (d + 1) w w' (.slice a (u :: bs).length cap) (u :: bs) x l f r ∧ x.kind = 5) := by
  obtain ⟨b, o, rfl, c0, h1, h2, ht⟩ := hb.tail
  obtain ⟨A, hA⟩ : ∃ A : Option Addr, (if cap = 1 then some (⟨b, o, none⟩ : Addr) else some ⟨b, o + 1, none⟩) = A := ⟨_, rfl⟩
  have hlt := lt_of_cell c0
  have hu : u.toNat < 256 := u.toNat_lt
  obtain ⟨c, hc⟩ : ∃ c : Int, (u.toNat : Int) = c := ⟨_, rfl⟩
  rw [hc] at c0 hr
  have c1 : 0 ≤ c := by omega
  have c2 : c ≤ 255 := by omega
  have HT : Hid (Tl (.slice (some ⟨b, o, none⟩) (u :: bs).length cap) (u :: bs) (.slice A bs.length (cap - 1))) := ⟨bs, fun W hW => by obtain ⟨b', o', e, _, _, _, ht'⟩ := hW.tail; cases e; rw [hA] at ht'; exact ht'⟩
  have HB0 : Hid (BytesAt w (.slice (some ⟨b, o, none⟩) (u :: bs).length cap) (u :: bs)) := hb
  simp only [List.length_cons]
  clear ht hb hu hc
  obtain ⟨i0, hi, hz0, hz1, hz2⟩ := info_parts infoF
  go_enter Tryz.func25, Tryz.ntmps25
  go_wp2
  go_loopg [0, 13, 14, 15, 95] 4 (fun gg s0 _ _ _ i wr => ∃ (k : Nat) (fs : List Fl) (sl : Value), k ≤ 4 ∧ 4 - k ≤ gg ∧ i = .int .i64 k ∧ Aside (Tl (.slice (some ⟨b, o, none⟩) (u :: bs).length cap) (u :: bs) s0) ∧ Aside (Below w.heap.size w wr ∧ wr.heap[w.heap.size]? = some (.cells #[.int .i64 0, .int .i64 0, .string ⟨#[]⟩, .slice none 0 0, .slice none 0 0] 31 (0, 0)) ∧ wr.heap[w.heap.size + 1]? = some (.cells #[.int .i64 5, .int .i64 0, .string ⟨#[]⟩, .slice none 0 0, sl] 31 (0, 0)) ∧ GrowsF d wr (w.heap.size + 1) sl fs ∧ fs.length ≤ k ∧ Rises (fs.map Fl.pair) ∧ ∀ e ∈ fs, ∃ j, j < k ∧ e.name = nameAt j))
  case atStart =>
    refine ⟨0, [], .slice none 0 0, Nat.zero_le _, by omega, rfl, HT.out, ((Below.refl _ _).alloc (Nat.le_refl _) _).alloc (by simp) _, heap_alloc2_old, heap_alloc2_new, ⟨World.ownsRow_nil _ _ _ _, fun e he => (by cases he), fun e he => (by cases he)⟩, Nat.le_refl _, trivial, fun e he => (by cases he)⟩
  case round =>
    obtain ⟨k, fs, sl, hk, hgg, rfl, HB, R⟩ := hrel
    obtain ⟨hB, hrow0, hrow1, hG, hfk, hri, hnm⟩ := R.out
    obtain ⟨al, cl, rfl⟩ := ownsRow_slice hG.own
    obtain ⟨bs', hbs'⟩ := HB.out
    have hbs1 := hbs' wr (HB0.out.below hB)
    by_cases hlt' : k < 4
    · have zk : (k : Int) < 4 := by omega
      have hcall := ih wr _ bs' hbs1 (hT.below hB)
      have hTr := hT.below hB
      clear ih
      go_wp2_with fail
      · refine hcall.mono ?_
        rintro e w1 ⟨x, l, f, r, rfl, hnx, hrx, hrb, hb1⟩
        obtain ⟨bl, dl, bf, df, rfl, rfl⟩ := hrx.slices
        have hrow1' := row_below hb1 hrow1
        have hrow0' := row_below hb1 hrow0
        obtain ⟨k0, k1, k2, k3, k4, kf⟩ := row5 hrow1'
        have hz1' : w.heap.size + 1 < w1.heap.size := lt_of_heap hrow1'
        have hG1 : GrowsF d w1 (w.heap.size + 1) (.slice al fs.length cl) fs := hG.move fun b _ hl => hb1.block b hl
        have hB1 : Below w.heap.size w w1 := hB.trans (hb1.mono hB.size)
        have cn := (hTr.below hb1).names k hlt'
        have hln := lt_of_cell cn
        simp only at hln
        obtain ⟨O, hO⟩ : ∃ O, O = Obj.cells #[.int .i64 x.kind, .int .i64 x.num, .string x.text, .slice bl x.list.length dl, .slice bf x.fields.length df] 31 := ⟨_, rfl⟩
        obtain ⟨O6, hO6⟩ : ∃ O6, O6 = Obj.cells #[.string (nameAt k), .int .i64 x.kind, .int .i64 x.num, .string x.text, .slice bl x.list.length dl, .slice bf x.fields.length df] 52 := ⟨_, rfl⟩
        have hG2 : GrowsF d ((w1.alloc O).alloc O6).drew (w.heap.size + 1) (.slice al fs.length cl) fs := hG1.move fun b _ hl => by show ((w1.alloc O).alloc O6).heap[b]? = _; rw [Below.heap_alloc _ _ b (by simp; omega), Below.heap_alloc _ _ b hl]
        have hnews : Aside (∀ j u, [Value.string (nameAt k), .int .i64 x.kind, .int .i64 x.num, .string x.text, .slice bl x.list.length dl, .slice bf x.fields.length df][j]? = some u → ((w1.alloc O).alloc O6).drew.cell? ((⟨w1.heap.size + 1, 0, none⟩ : Addr).add j) = some u) := by
          have h : ((w1.alloc O).alloc O6).drew.heap[w1.heap.size + 1]? = some O6 := heap_alloc2_new
          rw [hO6] at h ⊢
          exact World.news_of_block h
        have hone : Aside (∀ v ∈ [Value.string (nameAt k), .int .i64 x.kind, .int .i64 x.num, .string x.text, .slice bl x.list.length dl, .slice bf x.fields.length df], v.oneCell' = true) := by
          intro v hv
          simp only [List.mem_cons, List.not_mem_nil, or_false] at hv
          rcases hv with rfl | rfl | rfl | rfl | rfl | rfl <;> rfl
        have hown := (show Aside _ from hG2.own)
        have hR3 : Aside (∀ w3, ((w1.alloc O).alloc O6).drew.grownBy w3 (Value.slice al fs.length cl).ownBlock → w3.heap[w.heap.size + 1]? = some (.cells #[.int .i64 5, .int .i64 0, .string ⟨#[]⟩, .slice none 0 0, .slice al fs.length cl] 31 (0, 0)) ∧ w3.heap[w.heap.size]? = some (.cells #[.int .i64 0, .int .i64 0, .string ⟨#[]⟩, .slice none 0 0, .slice none 0 0] 31 (0, 0))) := by
          intro w3 hgr
          have hne : ∀ b, b < w.heap.size + 1 + 1 → some b ≠ (Value.slice al fs.length cl).ownBlock := fun b hb e => by
            have := (hG2.own.lt b e.symm).1
            omega
          have hl0 := lt_of_heap hrow0'
          refine ⟨(hgr.block _ (by simp; omega) (hne _ (by omega))).trans ?_, (hgr.block _ (by simp; omega) (hne _ (by omega))).trans ?_⟩
          · show ((w1.alloc O).alloc O6).heap[_]? = _
            rw [Below.heap_alloc _ _ _ (by simp; omega), Below.heap_alloc _ _ _ (by omega)]; exact hrow1'
          · show ((w1.alloc O).alloc O6).heap[_]? = _
            rw [Below.heap_alloc _ _ _ (by simp; omega), Below.heap_alloc _ _ _ (by omega)]; exact hrow0'
        rw [hO, hO6] at hown hnews hR3
        have S := (show Aside _ from And.intro hnx (And.intro hrx (And.intro hrb (And.intro hG2 (And.intro hB1 (And.intro (lt_of_heap hrow1) (And.intro hb1 (And.intro hO (And.intro hO6 (And.intro (fun k e => (hG.own.lt k e).2) (And.intro hbs' (And.intro hfk (And.intro hri hnm)))))))))))))
        have hsb : w.heap.size + 1 + 1 ≤ w1.heap.size := hz1'
        have hfl : fs.length ≤ 4 := by omega
        have hz0' : w.heap.size < w1.heap.size := by omega
        have hz00 : 0 < w1.heap.size := by omega
        have hz01 : 1 < w1.heap.size + 1 := by omega
        clear hcall hnx hrx hrb hrow0' hrow1' hG1 hG2 hB1 hb1 hB hrow0 hrow1 hG R HB hO hO6 hbs' hbs1 hTr hri hnm hfk
        go_wp2_with fail
        go_region_law (refine step_append_lies _ rfl (.tmp 111) (.tmp 117) 29 rfl (w.heap.size + 1 + 1) 52 i0 _ 6 96 Tryz.underlying29 hi hz0 hz1 hz2 rfl (by decide) _ fs.length (encFs fs) (by simp [Act.eval]) hown.out ⟨w1.heap.size + 1, 0, none⟩ 1 1 [.string (nameAt k), .int .i64 x.kind, .int .i64 x.num, .string x.text, .slice bl x.list.length dl, .slice bf x.fields.length df] (by simp [Act.eval]) rfl hnews.out hone.out (by omega) (by unfold maxLen; omega) (by omega) (by simp; omega) _ rfl ?_; intro g cap' w3 hown3 hgrow3 hlie hlt3; have r3 := (hR3.out w3 hgrow3).1; obtain ⟨m0, m1, m2, m3, m4, mf⟩ := row5 r3; have zz3 : w.heap.size + 1 < w3.heap.size := lt_of_heap r3; have Y := (show Aside _ from And.intro hown3 (And.intro hgrow3 (And.intro hlie r3))); clear hown3 hgrow3 hlie r3)
        all_goals
          go_wp2
          go_roundg (4 - (k + 1))
          case measure => omega
          case rel =>
            obtain ⟨hnx, hrx, hrb, hG2, hB1, hl1, hb1, hO, hO6, hlw, hbs', hfk, hri, hnm⟩ := S.out
            obtain ⟨hown3, hgrow3, hlie, r3⟩ := Y.out
            rw [← hO, ← hO6] at hgrow3 hR3
            have q3 := (hR3.out w3 hgrow3).2
            have hB3 : Below w.heap.size w w3 := ((((hB1.alloc (by omega) O).alloc (by simp; omega) O6).drew).grown hgrow3 (by simp; omega) (fun k e => by have := (hG2.own.lt k e).1; omega))
            have hrx2 : Rep (fun b => w.heap.size + 1 < b ∧ (Value.slice al fs.length cl).ownBlock ≠ some b) d ((w1.alloc O).alloc O6).drew x (.slice bl x.list.length dl) (.slice bf x.fields.length df) := hrx.move fun b hb hl => by
              refine ⟨⟨by omega, fun e => ?_⟩, by show ((w1.alloc O).alloc O6).heap[b]? = _; rw [Below.heap_alloc _ _ b (by simp; omega), Below.heap_alloc _ _ b hl]⟩
              have := hlw b e
              omega
            have hG3 : GrowsF d w3 (w.heap.size + 1) (.slice (some ⟨g, 0, none⟩) (fs.length + 1) cap') (fs ++ [⟨nameAt k, x, .slice bl x.list.length dl, .slice bf x.fields.length df⟩]) := by
              refine hG2.step hnx hrx2 hown3 hgrow3 ?_
              rcases hlie with e | e
              · exact .inl e
              · right; show some g = _; rw [e]; simp
            refine ⟨k + 1, fs ++ [⟨nameAt k, x, .slice bl x.list.length dl, .slice bf x.fields.length df⟩], .slice (some ⟨g, 0, none⟩) (fs.length + 1) cap', by omega, by omega, by go_num, ?_, hB3.setCell (by simp) _, ?_, ?_, hG3.move fun b hb _ => heap_setCell_ne _ _ _ (by simp; omega), by simp; omega, ?_, ?_⟩
            · obtain ⟨bs2, h2⟩ := hrb
              exact ⟨bs2, fun W hW => h2 W (hbs' W hW)⟩
            · rw [heap_setCell_ne _ _ _ (by simp)]; exact q3
            · exact setCell_row r3 (i := 4) _
            · rw [List.map_append]
              refine rises_snoc hri fun p hp => ?_
              obtain ⟨e, he, rfl⟩ := List.mem_map.1 hp
              obtain ⟨j, hj, hje⟩ := hnm e he
              show cmpT e.name (nameAt k) < 0
              rw [hje]
              exact nameAt_less hj hlt'
            · intro e he
              rcases List.mem_append.1 he with he | he
              · obtain ⟨j, hj, hje⟩ := hnm e he
                exact ⟨j, by omega, hje⟩
              · rw [List.mem_singleton.1 he]
                exact ⟨k, by omega, rfl⟩
      · go_roundg (4 - (k + 1))
        case measure => omega
        case rel =>
          obtain ⟨hB, hrow0, hrow1, hG, hfk, hri, hnm⟩ := R.out
          exact ⟨k + 1, fs, _, by omega, by omega, by go_num, HB.out, hB, hrow0, hrow1, hG, by omega, hri, fun e he => (hnm e he).imp fun j hj => ⟨by omega, hj.2⟩⟩
    · have zk : ¬ (k : Int) < 4 := by omega
      obtain ⟨k0, k1, k2, k3, k4, kf⟩ := row5 hrow1
      obtain ⟨j0, j1, j2, j3, j4, jf⟩ := row5 hrow0
      have hz1' : w.heap.size + 1 < wr.heap.size := lt_of_heap hrow1
      have S := (show Aside _ from And.intro hB (And.intro hG (And.intro hfk (And.intro hri hnm))))
      clear ih hB hrow0 hrow1 hG R hbs' hbs1 hri hnm hfk
      go_wp2
      refine bodyPost_ret (v := .tuple #[.agg #[.int .i64 5, .int .i64 0, .string ⟨#[]⟩, .slice none 0 0, .slice al fs.length cl], _]) (by simp [results, Tryz.results25, go_sem, j0, j1, j2, j3, j4]) rfl ⟨⟨5, 0, ⟨#[]⟩, [], fs.map Fl.pair⟩, _, _, _, rfl, ⟨?_, ?_, HB.out, ?_⟩, rfl⟩
      · obtain ⟨hB, hG, hfk, hri, hnm⟩ := S.out
        refine ⟨show (0 : Int) ≤ 5 by decide, show (5 : Int) ≤ 5 by decide, ⟨show (-9223372036854775808 : Int) ≤ 0 by decide, show (0 : Int) ≤ 9223372036854775807 by decide⟩, show Wd 5 0 ⟨#[]⟩ from Wd.no _ _ (by decide), by simp, by simp; omega, hri, fun y hy => (by cases hy), fun p hp => ?_⟩
        obtain ⟨e, he, rfl⟩ := List.mem_map.1 hp
        obtain ⟨j, _, hje⟩ := hnm e he
        refine ⟨?_, hG.nice e he⟩
        exact ⟨j, hje⟩
      · obtain ⟨hB, hG, hfk, hri, hnm⟩ := S.out
        have hne : ∀ b, w.heap.size < b → (set5W wr w.heap.size 0 1 2 3 4 (.int .i64 5) (.int .i64 0) (.string ⟨#[]⟩) (.slice none 0 0) (.slice al fs.length cl)).heap[b]? = wr.heap[b]? := fun b hb => set5W_ne _ _ _ _ _ _ _ _ _ _ _ _ (by omega)
        have hG' := hG.move (W' := set5W wr w.heap.size 0 1 2 3 4 (.int .i64 5) (.int .i64 0) (.string ⟨#[]⟩) (.slice none 0 0) (.slice al fs.length cl)) fun b hb _ => hne b (by omega)
        exact ⟨⟨[], rfl, RowAt.nil, fun e he => (by cases he)⟩, ⟨fs, rfl, ⟨ownsRow_move (fun b _ _ => ⟨Nat.zero_le _, rfl⟩) hG'.own, by omega, fun b hb => by have := (hG'.own.lt b hb).1; show w.heap.size ≤ b; omega⟩, fun e he => (hG'.rep e he).move fun b hb _ => ⟨by omega, rfl⟩⟩⟩
      · exact set5W_below S.out.1 (Nat.le_refl _) 0 1 2 3 4 _ _ _ _ _
end Go.Proofs.YtnkoblhdbccbeaaGreatDoor
