/-
  The law's awake: the document's examples. No conditions beyond those stated.
  What the walks of stage 6's laws share. No conditions beyond those stated.
  What the rows of this seat share: the listed variables' cells. No conditions beyond those stated.
  A world that lays the listed variables' cells: for the laws of values; slices of bytes that come in. No conditions.
-/
import Derived.Test.YtgcccihnlecpnaaGreatDoorU14
import Derived.Test.YtgcccihnlecpnaaGreatDoorU8
import Derived.Test.YtgcccihnlecpnaaGreatDoorU10
import Derived.Test.YtgcccihnlecpnaaGreatDoorU13
import Derived.Test.YtgcccihnlecpnaaGreatDoorU7
import Derived.Shelf.Vars
import Derived.Test.YtgcccihnlecpnaaGreatDoorCards
import Derived.Test.YtgcccihnlecpnaaGreatDoorTie
import Derived.ProofKit
import Derived.OpenShut
import Derived.Carry
import Derived.LaidHandle
import Derived.LaidLaws
import Derived.Deep.DeepHandedRow
import Derived.Lib.LaidTab
import Derived.Lib.LaidU8T
import Derived.PinnedBridge
import Derived.Test.YtgcccihnlecpnaaGreatDoorU9
namespace Go.Proofs.YtgcccihnlecpnaaGreatDoor
open Go.RowKit

theorem lies_two {n : Nat} {W : World} {b : Nat} {x y : V} {lx fx ly fy : Value} {t1 : ByteArray} {m : Int}
    (h : W.heap[b]? = some (.cells #[.int .i64 x.kind, .int .i64 x.num, .string x.text, lx, fx, .int .i64 y.kind, .int .i64 y.num, .string y.text, ly, fy] 28 (0, 0))) (hx : Lies n W x lx fx) (hy : Lies n W y ly fy) :
    Lies (n + 1) W ⟨4, m, t1, [x, y], []⟩ (.slice (some ⟨b, 0, none⟩) 2 2) (.slice none 0 0) := by
  refine ⟨⟨[⟨x, lx, fx⟩, ⟨y, ly, fy⟩], rfl, ⟨⟨rfl, .inr ⟨b, 2, _, rfl, Nat.zero_le _, h, Nat.le_refl _, by decide, rfl, rfl⟩⟩, by simp, fun _ _ => trivial⟩, ?_⟩, ⟨[], rfl, RowAt.nil, fun e he => (by cases he)⟩⟩
  intro e he
  rcases List.mem_cons.1 he with rfl | he
  · exact hx
  · rcases List.mem_cons.1 he with rfl | he
    · exact hy
    · cases he
/-- an object of one. -/
theorem lies_one {n : Nat} {W : World} {b : Nat} {x : V} {nm : ByteArray} {lx fx : Value} {t1 : ByteArray} {m : Int}
    (h : W.heap[b]? = some (.cells #[.string nm, .int .i64 x.kind, .int .i64 x.num, .string x.text, lx, fx] 44 (0, 0))) (hx : Lies n W x lx fx) :
    Lies (n + 1) W ⟨5, m, t1, [], [(nm, x)]⟩ (.slice none 0 0) (.slice (some ⟨b, 0, none⟩) 1 1) := by
  refine ⟨⟨[], rfl, RowAt.nil, fun e he => (by cases he)⟩, ⟨[⟨nm, x, lx, fx⟩], rfl, ⟨⟨rfl, .inr ⟨b, 1, _, rfl, Nat.zero_le _, h, Nat.le_refl _, by decide, rfl, rfl⟩⟩, by simp, fun _ _ => trivial⟩, ?_⟩⟩
  intro e he
  rcases List.mem_cons.1 he with rfl | he
  · exact hx
  · cases he

def aw5 : V := ⟨2, 5, ⟨#[]⟩, [], []⟩
def aw6 : V := ⟨2, 6, ⟨#[]⟩, [], []⟩
def awL : V := ⟨4, 0, ⟨#[]⟩, [aw5, aw6], []⟩
def awV : V := ⟨5, 0, ⟨#[]⟩, [], [(⟨#[97]⟩, awL)]⟩
theorem valid_aw1 : Lib.validD [97, 46, 49] = true := by decide +kernel
theorem aw_parse : parsePP ⟨#[97, 46, 49]⟩ = some [⟨#[97]⟩, ⟨#[49]⟩] := by
  have hd : dots ⟨#[97, 46, 49]⟩ = [⟨#[97]⟩, ⟨#[49]⟩] := rfl
  rw [parse_good ⟨valid_aw1, by rw [hd]; decide, by
    rw [hd]
    intro p hp
    rcases List.mem_cons.1 hp with rfl | hp
    · decide
    · rcases List.mem_cons.1 hp with rfl | hp
      · decide
      · cases hp⟩, hd]
theorem aw_wrong : parsePP ⟨#[97, 46, 46, 98]⟩ = none := by
  refine parse_bad fun h => ?_
  have hd : dots ⟨#[97, 46, 46, 98]⟩ = [⟨#[97]⟩, ⟨#[]⟩, ⟨#[98]⟩] := rfl
  have := h.2.2 ⟨#[]⟩ (by rw [hd]; simp)
  exact absurd this.1 (by decide)
theorem aitoa1 : Lib.itoa 1 = [49] := by unfold Lib.itoa; rw [if_neg (by decide)]; show Lib.decDigits 1 = _; rw [Lib.decDigits]; rfl
theorem aplace1 : placeOf ⟨#[49]⟩ = some 1 := by
  show (if 0 ≤ (1 : Int) ∧ Lib.itoa 1 = [49] then some (1 : Int).toNat else none) = _
  rw [aitoa1]; rfl
theorem aw_find : findP awV [⟨#[97]⟩, ⟨#[49]⟩] = some aw6 := by
  have h1 : atP awV ⟨#[97]⟩ = some awL := by
    rw [at5 rfl, show awV.fields = [(⟨#[97]⟩, awL)] from rfl, getF_cons, if_pos (good_cmpT.refl _)]
  have h2 : atP awL ⟨#[49]⟩ = some aw6 := by rw [at4 rfl, aplace1]; rfl
  rw [find_cons_some h1, find_cons_some h2]; rfl

set_option maxRecDepth 100000 in
set_option maxHeartbeats 4000000 in
theorem awake_true (w : World) (hE : PEnv w) : Calls Tryz.prog 7 #[] w fun e w' => e = .returned (.bool true) ∧ Below w.heap.size w w' := by
  obtain ⟨W4, hW4⟩ : ∃ W, (((w.alloc (.cells #[.int .i64 2, .int .i64 5, .string ⟨#[]⟩, .slice none 0 0, .slice none 0 0, .int .i64 2, .int .i64 6, .string ⟨#[]⟩, .slice none 0 0, .slice none 0 0] 28)).alloc (.cells #[.int .i64 4, .int .i64 0, .string ⟨#[]⟩, .slice (some ⟨w.heap.size, 0, none⟩) 2 2, .slice none 0 0] 28)).alloc (.cells #[.string ⟨#[97]⟩, .int .i64 4, .int .i64 0, .string ⟨#[]⟩, .slice (some ⟨w.heap.size, 0, none⟩) 2 2, .slice none 0 0] 44)).alloc (.cells #[.int .i64 5, .int .i64 0, .string ⟨#[]⟩, .slice none 0 0, .slice (some ⟨w.heap.size + 1 + 1, 0, none⟩) 1 1] 28) = W := ⟨_, rfl⟩
  have hB4 : Below w.heap.size w W4 := by rw [← hW4]; exact ((((Below.refl _ _).alloc (Nat.le_refl _) _).alloc (by simp) _).alloc (by simp; omega) _).alloc (by simp; omega) _
  have r0 : W4.heap[w.heap.size]? = some (.cells #[.int .i64 2, .int .i64 5, .string ⟨#[]⟩, .slice none 0 0, .slice none 0 0, .int .i64 2, .int .i64 6, .string ⟨#[]⟩, .slice none 0 0, .slice none 0 0] 28) := by
    rw [← hW4, Below.heap_alloc _ _ _ (by simp; omega)]
    exact heap_alloc3_0
  have r2 : W4.heap[w.heap.size + 1 + 1]? = some (.cells #[.string ⟨#[97]⟩, .int .i64 4, .int .i64 0, .string ⟨#[]⟩, .slice (some ⟨w.heap.size, 0, none⟩) 2 2, .slice none 0 0] 44) := by
    rw [← hW4, Below.heap_alloc _ _ _ (by simp)]
    exact heap_alloc3_2
  have r3 : W4.heap[w.heap.size + 1 + 1 + 1]? = some (.cells #[.int .i64 5, .int .i64 0, .string ⟨#[]⟩, .slice none 0 0, .slice (some ⟨w.heap.size + 1 + 1, 0, none⟩) 1 1] 28) := by
    rw [← hW4]
    simpa using heap_alloc_new (((w.alloc (.cells #[.int .i64 2, .int .i64 5, .string ⟨#[]⟩, .slice none 0 0, .slice none 0 0, .int .i64 2, .int .i64 6, .string ⟨#[]⟩, .slice none 0 0, .slice none 0 0] 28)).alloc (.cells #[.int .i64 4, .int .i64 0, .string ⟨#[]⟩, .slice (some ⟨w.heap.size, 0, none⟩) 2 2, .slice none 0 0] 28)).alloc (.cells #[.string ⟨#[97]⟩, .int .i64 4, .int .i64 0, .string ⟨#[]⟩, .slice (some ⟨w.heap.size, 0, none⟩) 2 2, .slice none 0 0] 44)) _
  have hL : Lies 1 W4 awL (.slice (some ⟨w.heap.size, 0, none⟩) 2 2) (.slice none 0 0) := lies_two (x := aw5) (y := aw6) r0 ⟨rfl, rfl, rfl, rfl⟩ ⟨rfl, rfl, rfl, rfl⟩
  have hV : Lies 2 W4 awV (.slice none 0 0) (.slice (some ⟨w.heap.size + 1 + 1, 0, none⟩) 1 1) := lies_one (x := awL) r2 hL
  have hp1 := Parse6_any ⟨#[97, 46, 49]⟩ W4 (hE.below hB4) (by decide)
  rw [aw_parse] at hp1
  have HH := (show Hid _ from And.intro hE (And.intro hB4 (And.intro r3 hV)))
  clear r0 r2 r3 hL hV hB4 hE
  go_enter Tryz.func7, Tryz.ntmps7
  go_wp2_with fail
  refine hp1.mono ?_
  rintro e w5 ⟨hb5, sv, rfl, hst⟩
  obtain ⟨hE, hB4, r3, hV⟩ := HH.out
  have r3' := (hb5.block _ (lt_of_heap r3)).trans r3
  obtain ⟨x0, x1, x2, x3, x4, xf⟩ := row5 r3'
  have hf := Find6_any 2 [⟨#[97]⟩, ⟨#[49]⟩] sv awV _ _ w5 ((hE.below hB4).below hb5) (fun p hp => by
    rcases List.mem_cons.1 hp with rfl | hp
    · decide
    · rcases List.mem_cons.1 hp with rfl | hp
      · decide
      · cases hp) hst (hV.below hb5)
  rw [aw_find] at hf
  have hf' : Calls Tryz.prog 10 #[.agg #[.int .i64 5, .int .i64 0, .string ⟨#[]⟩, .slice none 0 0, .slice (some ⟨w.heap.size + 1 + 1, 0, none⟩) 1 1], sv] w5 fun e w' => ∃ l' f' m, e = .returned (.tuple #[.agg #[.int .i64 2, .int .i64 6, .string ⟨#[]⟩, l', f'], .bool true]) ∧ Lies m w' aw6 l' f' ∧ Below w5.heap.size w5 w' := hf
  obtain ⟨sa, sc, rfl, -⟩ := hst
  have hB5 := hB4.trans (hb5.mono hB4.size)
  have T := (show Hid _ from And.intro hB5 (hE.below hB5))
  clear hE hB4 r3 hV r3' hf hB5 hb5 hp1
  go_wp2_with fail
  refine hf'.mono ?_
  rintro e w6 ⟨l', f', m, rfl, hx, hb6⟩
  obtain ⟨z1, d1, z3, d3, e1, e2⟩ := Rep.slices hx
  have e1' : l' = .slice z1 0 d1 := e1
  have e2' : f' = .slice z3 0 d3 := e2
  subst e1' e2'
  obtain ⟨W7, hW7⟩ : ∃ W, w6.alloc (.cells #[.int .i64 2, .int .i64 6, .string ⟨#[]⟩, .slice z1 0 d1, .slice z3 0 d3] 28) = W := ⟨_, rfl⟩
  have hB7 : Below w5.heap.size w5 W7 := by rw [← hW7]; exact hb6.alloc hb6.size _
  have q7 : W7.heap[w6.heap.size]? = some (.cells #[.int .i64 2, .int .i64 6, .string ⟨#[]⟩, .slice z1 0 d1, .slice z3 0 d3] 28) := by rw [← hW7]; exact heap_alloc_new w6 _
  have hBw7 := T.out.1.trans (hB7.mono T.out.1.size)
  have hp2 := Parse6_any ⟨#[97, 46, 46, 98]⟩ W7 (T.out.2.below hB7) (by decide)
  rw [aw_wrong] at hp2
  have U := (show Hid _ from And.intro hBw7 (And.intro (T.out.2.below hB7) q7))
  clear hf' x0 x1 x2 x3 x4 xf hx e1 e2 hb6 hB7 hBw7 q7
  go_wp2_with fail
  refine hp2.mono ?_
  rintro e w8 ⟨hb8, ue, ze, rfl, hflt⟩
  obtain ⟨hBw7, hE7, q7⟩ := U.out
  have q8 := (hb8.block _ (lt_of_heap q7)).trans q7
  obtain ⟨x0, x1, x2, x3, x4, xf⟩ := row5 q8
  have hcode := hflt.code (hE7.below hb8)
  have hB8 := hBw7.trans (hb8.mono hBw7.size)
  clear hp2 hBw7 hE7 q7 q8 hflt hb8
  go_wp2_with fail
  refine hcode.mono ?_
  rintro e w9 ⟨rfl, hb9⟩
  go_wp2_with fail
  go_ret
  exact ⟨rfl, hB8.trans (hb9.mono hB8.size)⟩
end Go.Proofs.YtgcccihnlecpnaaGreatDoor

namespace Go.Proofs.YtgcccihnlecpnaaGreatDoor
open Go.RowKit

theorem boxed {w W : World} {O : Obj} (h : w.alloc O = W) : Below w.heap.size w W ∧ W.heap[w.heap.size]? = some O := by
  subst h
  exact ⟨(Below.refl _ _).alloc (Nat.le_refl _) _, heap_alloc_new w O⟩
theorem Fit.le {N : Nat} : ∀ {m n : Nat} {v : V}, m ≤ n → Fit N n v → Fit N m v
  | 0, _, _, _, _ => trivial
  | m + 1, 0, _, h, _ => by omega
  | m + 1, n + 1, _, h, ⟨h1, h2, h3, h4⟩ => ⟨h1, h2, fun x hx => Fit.le (by omega) (h3 x hx), fun p hp => Fit.le (by omega) (h4 p hp)⟩
theorem Ten.le : ∀ {m n : Nat} {v : V}, m ≤ n → Ten n v → Ten m v
  | 0, _, _, _, _ => trivial
  | m + 1, 0, _, h, _ => by omega
  | m + 1, n + 1, _, h, ⟨h1, h3, h4⟩ => ⟨h1, fun x hx => Ten.le (by omega) (h3 x hx), fun p hp => Ten.le (by omega) (h4 p hp)⟩
theorem nice_fit : ∀ (n : Nat) (v : V), Nice n v → Fit 4 (n + 1) v
  | 0, v, ⟨_, _, _, _, h5, h6⟩ => ⟨by rw [h6]; trivial, by rw [h6]; decide, fun x hx => (by rw [h5] at hx; cases hx), fun p hp => (by rw [h6] at hp; cases hp)⟩
  | n + 1, v, ⟨_, _, _, _, h5, h6, h7, h8, h9⟩ => ⟨h7, h6, fun x hx => nice_fit n x (h8 x hx), fun p hp => nice_fit n p.2 (h9 p hp).2⟩
theorem nice_ten : ∀ (n : Nat) (v : V), Nice n v → Ten (n + 1) v
  | 0, v, ⟨_, _, _, _, h5, h6⟩ => ⟨by rw [h5]; decide, fun x hx => (by rw [h5] at hx; cases hx), fun p hp => (by rw [h6] at hp; cases hp)⟩
  | n + 1, v, ⟨_, _, _, _, h5, h6, h7, h8, h9⟩ => ⟨by omega, fun x hx => nice_ten n x (h8 x hx), fun p hp => nice_ten n p.2 (h9 p hp).2⟩
theorem way_len (bs : List UInt8) : (wayOf bs).length ≤ 4 := by
  unfold wayOf; rw [List.length_map, List.length_take]; omega
theorem wayAt_size (i : Nat) : (wayAt i).size ≤ 2 := by
  unfold wayAt
  split <;> decide
theorem way_size (bs : List UInt8) : ∀ p ∈ wayOf bs, p.size ≤ 1099511627776 := by
  intro p hp
  obtain ⟨b, _, rfl⟩ := List.mem_map.1 hp
  have := wayAt_size b.toNat
  omega
/-- values that are the same. -/
theorem same_any {m1 m2 : Nat} {x : V} {la fa lb fb : Value} {w : World} (ha : Lies m1 w x la fa) (hb : Lies m2 w x lb fb) :
    Calls Tryz.prog 12 #[.agg #[.int .i64 x.kind, .int .i64 x.num, .string x.text, la, fa], .agg #[.int .i64 x.kind, .int .i64 x.num, .string x.text, lb, fb]] w fun e w' => e = .returned (.bool true) ∧ Below w.heap.size w w' :=
  same_refl (Rep.le ha (Nat.le_max_left m1 m2)) (Rep.le hb (Nat.le_max_right m1 m2))
end Go.Proofs.YtgcccihnlecpnaaGreatDoor

namespace Go.Proofs.YtgcccihnlecpnaaGreatDoor
open Go.RowKit Go.Extern.Stop Go.Stop Go.Extern

theorem own : ownKnob Tryz.prog.godebug = none := by kernel_rfl
theorem laidOut : laidOutB Tryz.prog = true := by kernel_rfl
theorem cellsStr : Tryz.prog.cellsOf 9 = 1 := by kernel_rfl
theorem cellsU8 : Tryz.prog.cellsOf 5 = 1 := by kernel_rfl

theorem cells_of_strs {H : Type} {enc : TypeId × Value → H} {w : World} {base : Nat} {sp : Nat → Bool} {held : Bool} {fuel : Nat} {t : TypeId} {n : Nat} {cs : List Value} {ws : List (List UInt8)} {p : List MemPlace}
    (ht : Tryz.prog.underlying t = some (.array n 9)) (h : DataW.trod enc Tryz.prog w base sp held fuel t cs = some (.agg (ws.map fun s => .lit (.string s)), p)) (i : Nat) (hi : i < n) : ∃ u, ws[i]? = some u ∧ cs[i]? = some (.string ⟨u.toArray⟩) := by
  obtain ⟨xs, m, _, hx, _, hl, he⟩ := DataW.trod_array ht h
  have h1 := he i hi
  rw [cellsStr, Nat.mul_one, List.getElem?_eq_getElem (by omega)] at h1
  obtain ⟨s, hc, hs, _⟩ := DataW.trod_string Tryz.underlying9 h1
  simp only [Prod.mk.injEq, DataW.agg.injEq] at hx
  have h2 : (xs.map (·.1))[i]? = some (.lit (.string s.data.toList)) := by rw [List.getElem?_map, List.getElem?_eq_getElem (by omega), hs]; rfl
  rw [← hx.1, List.getElem?_map] at h2
  obtain ⟨u, hu1, hu2⟩ := Option.map_eq_some_iff.1 h2
  simp only [DataW.lit.injEq, Lit.string.injEq] at hu2
  refine ⟨u, hu1, ?_⟩
  have h3 := congrArg (·[0]?) hc
  simp only [List.getElem?_take, List.getElem?_drop] at h3
  simp at h3
  rw [h3, hu2]


theorem et : Tryz.prog.globalNamed "errors.errorType" = some 2 := by kernel_rfl
theorem rt : (Tryz.prog.cutTypes.find? (·.1 == "internal/reflectlite.rtype")).map (·.2) = some 102 := by kernel_rfl
theorem oneRow : ((List.range 200).filter fun t => Tryz.prog.rowNamed t [101, 114, 114, 111, 114]) = [37] := by kernel_rfl
theorem tsize : Tryz.prog.types.size = 200 := by kernel_rfl
theorem gPowType : (Tryz.prog.globals[6]?).map (·.type) = some 151 := by kernel_rfl
theorem cellsPow : Tryz.prog.cellsOf 151 = 20 := by kernel_rfl
theorem cellsU64 : Tryz.prog.cellsOf 128 = 1 := by kernel_rfl

theorem handle_of_laid {W : World} (h : handlesMet Tryz.prog [("errors.errorType", Rows.laid_errors_errorType)] W) : Handle W := by
  obtain ⟨name, u, ty, e1, e2, e3, e4, e5⟩ := h _ (List.mem_singleton.2 rfl)
  have en : name = [101, 114, 114, 111, 114] := (Option.some.inj e1).symm
  subst en
  obtain rfl := Option.some.inj (rt.symm.trans e2)
  have hm : ty ∈ (List.range 200).filter fun t => Tryz.prog.rowNamed t [101, 114, 114, 111, 114] := List.mem_filter.2 ⟨List.mem_range.2 (by rw [← tsize]; exact e3), e4⟩
  rw [oneRow] at hm
  obtain rfl := List.mem_singleton.1 hm
  have hh : typeHandle Tryz.prog 37 = .pointer (some ⟨11, 37, none⟩) := by kernel_rfl
  rw [hh] at e5
  unfold Handle
  simpa using World.var?_cell et e5 0

theorem u8Extra : U8Extra Tryz.prog Tryz.laysValid_ren := ⟨by kernel_rfl, by kernel_rfl, by kernel_rfl, by kernel_rfl, by kernel_rfl, by kernel_rfl, by kernel_rfl⟩
theorem accept_eq : Rows.laid_unicode_utf8_acceptRanges = Lib.acceptData := by kernel_rfl
theorem gSyn : Tryz.prog.globalNamed "strconv.ErrSyntax" = some 7 := by kernel_rfl
theorem gRange : Tryz.prog.globalNamed "strconv.ErrRange" = some 8 := by kernel_rfl
theorem gSynT : (Tryz.prog.globals[7]?).map (·.type) = some 37 := by kernel_rfl
theorem gRangeT : (Tryz.prog.globals[8]?).map (·.type) = some 37 := by kernel_rfl

theorem err_cell {W : World} {ll : List (String × DataW Unit)} {n : String} {g : Nat} {d : DataW Unit} {nm : String} {y : DataW Unit} (hd0 : d = .iface nm y) (hm : laidMet Tryz.prog ll W) (hin : (n, d) ∈ ll) (hg : Tryz.prog.globalNamed n = some g) (ht : (Tryz.prog.globals[g]?).map (·.type) = some 37) :
    ∃ ev, W.cell? ⟨g, 0, none⟩ = some ev ∧ (ev = .nilIface ∨ ∃ te pe, ev = .iface te pe) := by
  obtain ⟨g', t, cs, fuel, p, hg', hty, hvar, hd⟩ := Lib.laidMet.reads hm (n := n) (d := d) hin
  obtain rfl := Option.some.inj (hg.symm.trans hg')
  obtain rfl := Option.some.inj (ht.symm.trans hty)
  subst hd0
  have h1 := World.var?_cell hg hvar 0
  obtain ⟨_, u, v, hcs, _, _⟩ := iface_of_trod Tryz.underlying37 hd
  have h2 : cs[0]? = some (.iface u v) := by
    have := congrArg (·[0]?) hcs
    simpa using this
  rw [h2] at h1
  exact ⟨_, h1, .inr ⟨u, v, rfl⟩⟩

theorem env_of {W : World} {ll : List (String × DataW Unit)} (hm : laidMet Tryz.prog ll W) (hh : handlesMet Tryz.prog [("errors.errorType", Rows.laid_errors_errorType)] W) (i1 : ("unicode/utf8.first", Rows.laid_unicode_utf8_first) ∈ ll) (i2 : ("unicode/utf8.acceptRanges", Rows.laid_unicode_utf8_acceptRanges) ∈ ll) (i3 : ("internal/strconv.uint64pow10", Rows.laid_internal_strconv_uint64pow10) ∈ ll) (i4 : ("strconv.ErrSyntax", Rows.laid_strconv_ErrSyntax) ∈ ll) (i5 : ("strconv.ErrRange", Rows.laid_strconv_ErrRange) ∈ ll) (hsh : W.ShapedOpen Tryz.prog) : PEnv W := by
  refine ⟨handle_of_laid hh, ?_, ?_, err_cell (d := Rows.laid_strconv_ErrSyntax) rfl hm i4 gSyn gSynT, err_cell (d := Rows.laid_strconv_ErrRange) rfl hm i5 gRange gRangeT, cell_of_shapedOpen_int (g := 5) (zero := #[.int .i64 0]) (t := 3) hsh (of_decide_eq_true (by kernel_rfl)) (by kernel_rfl) rfl (by kernel_rfl) (by kernel_rfl) Tryz.underlying3⟩
  · have h3 := Lib.laidMet.reads hm (n := "unicode/utf8.first") (d := Rows.laid_unicode_utf8_first) i1
    have h4 := Lib.laidMet.reads hm (n := "unicode/utf8.acceptRanges") (d := Rows.laid_unicode_utf8_acceptRanges) i2
    rw [show Rows.laid_unicode_utf8_first = Lib.firstData from Pinned.utf8First_eq] at h3
    rw [accept_eq] at h4
    exact utf8Tabs_of_readsT (U8Types.of196 Tryz.laysValid) u8Extra h3 h4
  · obtain ⟨g, t, cs, fuel, p, hg, hty, hvar, hd⟩ := Lib.laidMet.reads hm (n := "internal/strconv.uint64pow10") (d := Rows.laid_internal_strconv_uint64pow10) i3
    obtain rfl := Option.some.inj (gPow.symm.trans hg)
    obtain rfl := Option.some.inj (gPowType.symm.trans hty)
    unfold Pow Lib.TabIs
    rw [hvar, ← Lib.cells_of_tab Tryz.underlying151 Tryz.underlying128 cellsU64 cellsPow (zs := Lib.pow10Tab) hd]
def putCells (cs : Array Value) : Obj → Obj
  | .cells _ t frozen => .cells cs t frozen
  | o => o
def tabFirst : Array Value := ((List.range 256).map fun c => Value.int .u8 (Lib.firstT c : Int)).toArray
def tab32 : Obj → Obj := (putCells #[.int .u8 0, .int .u8 1, .int .u8 28, .int .u8 2, .int .u8 29, .int .u8 14, .int .u8 24, .int .u8 3, .int .u8 30, .int .u8 22, .int .u8 20, .int .u8 15, .int .u8 25, .int .u8 17, .int .u8 4, .int .u8 8, .int .u8 31, .int .u8 27, .int .u8 13, .int .u8 23, .int .u8 21, .int .u8 19, .int .u8 16, .int .u8 7, .int .u8 26, .int .u8 12, .int .u8 18, .int .u8 6, .int .u8 11, .int .u8 5, .int .u8 10, .int .u8 9])
def tab64 : Obj → Obj := (putCells #[.int .u8 0, .int .u8 1, .int .u8 56, .int .u8 2, .int .u8 57, .int .u8 49, .int .u8 28, .int .u8 3, .int .u8 61, .int .u8 58, .int .u8 42, .int .u8 50, .int .u8 38, .int .u8 29, .int .u8 17, .int .u8 4, .int .u8 62, .int .u8 47, .int .u8 59, .int .u8 36, .int .u8 45, .int .u8 43, .int .u8 51, .int .u8 22, .int .u8 53, .int .u8 39, .int .u8 33, .int .u8 30, .int .u8 24, .int .u8 18, .int .u8 12, .int .u8 5, .int .u8 63, .int .u8 55, .int .u8 48, .int .u8 27, .int .u8 60, .int .u8 41, .int .u8 37, .int .u8 16, .int .u8 46, .int .u8 35, .int .u8 44, .int .u8 21, .int .u8 52, .int .u8 32, .int .u8 23, .int .u8 11, .int .u8 54, .int .u8 26, .int .u8 40, .int .u8 15, .int .u8 34, .int .u8 20, .int .u8 31, .int .u8 10, .int .u8 25, .int .u8 14, .int .u8 19, .int .u8 9, .int .u8 13, .int .u8 8, .int .u8 7, .int .u8 6])
def tabAcc : Obj → Obj := (putCells #[.int .u8 128, .int .u8 191, .int .u8 160, .int .u8 191, .int .u8 128, .int .u8 159, .int .u8 144, .int .u8 191, .int .u8 128, .int .u8 143, .int .u8 0, .int .u8 0, .int .u8 0, .int .u8 0, .int .u8 0, .int .u8 0, .int .u8 0, .int .u8 0, .int .u8 0, .int .u8 0, .int .u8 0, .int .u8 0, .int .u8 0, .int .u8 0, .int .u8 0, .int .u8 0, .int .u8 0, .int .u8 0, .int .u8 0, .int .u8 0, .int .u8 0, .int .u8 0])
def tabPow : Obj → Obj := (putCells #[.int .u64 1, .int .u64 10, .int .u64 100, .int .u64 1000, .int .u64 10000, .int .u64 100000, .int .u64 1000000, .int .u64 10000000, .int .u64 100000000, .int .u64 1000000000, .int .u64 10000000000, .int .u64 100000000000, .int .u64 1000000000000, .int .u64 10000000000000, .int .u64 100000000000000, .int .u64 1000000000000000, .int .u64 10000000000000000, .int .u64 100000000000000000, .int .u64 1000000000000000000, .int .u64 10000000000000000000])
def laidA (h : Array Obj) : Array Obj := (((h.modify 2 (putCells #[.iface 102 (.agg #[.pointer (some ⟨11, 37, none⟩)])])).modify 3 (putCells tabFirst)).modify 4 tabAcc).modify 6 tabPow
def laidC (h : Array Obj) : Array Obj := (((h.modify 8 (putCells #[.iface 167 (.pointer (some ⟨h.size, 0, none⟩))])).modify 7 (putCells #[.iface 167 (.pointer (some ⟨h.size + 1, 0, none⟩))])).push (.cells #[.string ⟨#[118, 97, 108, 117, 101, 32, 111, 117, 116, 32, 111, 102, 32, 114, 97, 110, 103, 101]⟩] 169 (0, 0))).push (.cells #[.string ⟨#[105, 110, 118, 97, 108, 105, 100, 32, 115, 121, 110, 116, 97, 120]⟩] 169 (0, 0))
end Go.Proofs.YtgcccihnlecpnaaGreatDoor

namespace Go.Proofs.YtgcccihnlecpnaaGreatDoor
open Go.RowKit Go.Extern.Stop Go.Stop Go.Extern

theorem gWords : Tryz.prog.globalNamed "roundelay/roundelaylaw03.words" = some 0 := by kernel_rfl
theorem gNames : Tryz.prog.globalNamed "roundelay/roundelaylaw03.names" = some 1 := by kernel_rfl
theorem gWordsT : (Tryz.prog.globals[0]?).map (·.type) = some 62 := by kernel_rfl
theorem gNamesT : (Tryz.prog.globals[1]?).map (·.type) = some 63 := by kernel_rfl
abbrev laid9 : List (String × DataW Unit) := [("math/bits.deBruijn32tab", Rows.laid_math_bits_deBruijn32tab), ("math/bits.deBruijn64tab", Rows.laid_math_bits_deBruijn64tab), ("internal/strconv.uint64pow10", Rows.laid_internal_strconv_uint64pow10), ("unicode/utf8.acceptRanges", Rows.laid_unicode_utf8_acceptRanges), ("strconv.ErrRange", Rows.laid_strconv_ErrRange), ("strconv.ErrSyntax", Rows.laid_strconv_ErrSyntax), ("roundelay/roundelaylaw03.words", Rows.laid_roundelay_roundelaylaw03_words), ("roundelay/roundelaylaw03.names", Rows.laid_roundelay_roundelaylaw03_names), ("unicode/utf8.first", Rows.laid_unicode_utf8_first)]
abbrev laid10 : List (String × DataW Unit) := [("math/bits.deBruijn32tab", Rows.laid_math_bits_deBruijn32tab), ("math/bits.deBruijn64tab", Rows.laid_math_bits_deBruijn64tab), ("internal/strconv.uint64pow10", Rows.laid_internal_strconv_uint64pow10), ("unicode/utf8.acceptRanges", Rows.laid_unicode_utf8_acceptRanges), ("errors.errorType", Rows.laid_errors_errorType), ("strconv.ErrRange", Rows.laid_strconv_ErrRange), ("strconv.ErrSyntax", Rows.laid_strconv_ErrSyntax), ("roundelay/roundelaylaw03.words", Rows.laid_roundelay_roundelaylaw03_words), ("roundelay/roundelaylaw03.names", Rows.laid_roundelay_roundelaylaw03_names), ("unicode/utf8.first", Rows.laid_unicode_utf8_first)]
theorem env_of_laid {W : World} (h : laidMetH Tryz.prog laid10 W) (hsh : W.ShapedOpen Tryz.prog) : PEnv W ∧ Tabs W := by
  have h' : laidMet Tryz.prog laid9 W ∧ handlesMet Tryz.prog [("errors.errorType", Rows.laid_errors_errorType)] W := h
  obtain ⟨hm, hh⟩ := h'
  refine ⟨env_of hm hh (by simp) (by simp) (by simp) (by simp) (by simp) hsh, ⟨?_, ?_⟩⟩
  · obtain ⟨g, t, cs, fuel, p, hg, hty, hvar, hd⟩ := Lib.laidMet.reads hm (n := "roundelay/roundelaylaw03.words") (d := Rows.laid_roundelay_roundelaylaw03_words) (by simp)
    obtain rfl := Option.some.inj (gWords.symm.trans hg)
    obtain rfl := Option.some.inj (gWordsT.symm.trans hty)
    intro i hi
    obtain ⟨u, hu1, hu2⟩ := cells_of_strs (ws := [[], [97], [98], [97, 98], [0], [195, 169], [122, 0], [108, 111, 110, 103, 44, 32, 97, 110, 100, 32, 108, 111, 110, 103, 101, 114]]) Tryz.underlying62 hd i hi
    have h1 := World.var?_cell gWords hvar i
    rw [show cs[i]? = some (.string ⟨u.toArray⟩) by simpa using hu2] at h1
    rw [h1]
    match i, hi, hu1 with
    | 0, _, h => cases h; rfl
    | 1, _, h => cases h; rfl
    | 2, _, h => cases h; rfl
    | 3, _, h => cases h; rfl
    | 4, _, h => cases h; rfl
    | 5, _, h => cases h; rfl
    | 6, _, h => cases h; rfl
    | 7, _, h => cases h; rfl
  · obtain ⟨g, t, cs, fuel, p, hg, hty, hvar, hd⟩ := Lib.laidMet.reads hm (n := "roundelay/roundelaylaw03.names") (d := Rows.laid_roundelay_roundelaylaw03_names) (by simp)
    obtain rfl := Option.some.inj (gNames.symm.trans hg)
    obtain rfl := Option.some.inj (gNamesT.symm.trans hty)
    intro i hi
    obtain ⟨u, hu1, hu2⟩ := cells_of_strs (ws := [[97], [98], [99], [110]]) Tryz.underlying63 hd i hi
    have h1 := World.var?_cell gNames hvar i
    rw [show cs[i]? = some (.string ⟨u.toArray⟩) by simpa using hu2] at h1
    rw [h1]
    match i, hi, hu1 with
    | 0, _, h => cases h; rfl
    | 1, _, h => cases h; rfl
    | 2, _, h => cases h; rfl
    | 3, _, h => cases h; rfl

def tabWords : Obj → Obj := (putCells #[.string (wordAt 0), .string (wordAt 1), .string (wordAt 2), .string (wordAt 3), .string (wordAt 4), .string (wordAt 5), .string (wordAt 6), .string (wordAt 7)])
def tabNames : Obj → Obj := (putCells #[.string (nameAt 0), .string (nameAt 1), .string (nameAt 2), .string (nameAt 3)])
def laidB (h : Array Obj) : Array Obj := (((h.modify 9 tab32).modify 10 tab64).modify 0 tabWords).modify 1 tabNames
/-- a world that meets the condition: the variables' cells laid. -/
def laidOn (w : World) : World := { w with heap := laidC (laidB (laidA w.heap)) }
theorem laidWorld_met (os : Os) (args : Array Value) : laidMetH Tryz.prog laid10 ((laidOn (World.holding Tryz.prog os ⟨#[], #[], []⟩)).forCall (fun _ _ => 0) ⟨#[], args, []⟩).memory :=
  laidMetH_of_parts (laidMet_of_run' 8 (by kernel_rfl) (by kernel_rfl)) (by kernel_rfl)
set_option maxRecDepth 100000 in
open Go.ChangeShapes Go.WideShapes Go.ChangeAt in
/-- a slice of bytes that came in. -/
theorem open_bytesAt {H : Type} {enc : TypeId × Value → H} {W : World} {base : Nat} {v : Value} {d : DataW H} {p : List MemPlace} (hval : Value.okWide Tryz.prog W .any base 22 v) (h : DataW.Trod enc Tryz.prog W 0 (fun _ => true) true 22 v d p) : ∃ bs, BytesAt W v bs := by
  obtain ⟨a1, len, cap, rfl⟩ := okWide_slice Tryz.underlying22 hval
  obtain ⟨fuel, hf⟩ := h
  rcases open_ints Tryz.underlying22 Tryz.underlying5 cellsU8 hf with ⟨hcs, hx⟩ | ⟨a, len', cap', zs, hcs, _, hl, hm, hz, hx, hcell, hwz⟩
  · simp [Value.cells] at hcs
    obtain ⟨rfl, rfl, rfl⟩ := hcs
    exact ⟨[], none, 0, rfl, Nat.le_refl _, by omega, fun h => absurd rfl h⟩
  · simp [Value.cells] at hcs
    obtain ⟨rfl, rfl, rfl⟩ := hcs
    simp only [if_true] at hz
    have hlen : ((zs.take len).map fun n => UInt8.ofNat n.toNat).length = len := by simp; omega
    refine ⟨(zs.take len).map fun n => UInt8.ofNat n.toNat, some a, cap, by rw [hlen], by omega, by unfold maxLen at hm; omega, fun hne => ?_⟩
    have h0 : 0 < len := by
      rcases Nat.eq_zero_or_pos len with h | h
      · exact absurd (List.eq_nil_of_length_eq_zero (by rw [hlen]; exact h)) hne
      · exact h
    obtain ⟨ab, ao, spot⟩ := a
    have hspot : spot = none := by simpa [Addr.add] using World.cell?_spot (hcell 0 (by omega))
    subst hspot
    refine ⟨ab, ao, rfl, fun j u hj => ?_⟩
    have hjl : j < len := by rw [← hlen]; exact (List.getElem?_eq_some_iff.1 hj).1
    have hc := hcell j (by omega)
    rw [Addr.add_lit] at hc
    rw [hc]
    rw [List.getElem?_map, List.getElem?_take, if_pos hjl, List.getElem?_eq_getElem (by omega)] at hj
    simp only [Option.map_some, Option.some.injEq] at hj
    have hw := hwz zs[j] (List.getElem_mem _)
    have hb : 0 ≤ zs[j] ∧ zs[j] < 256 := by
      have h1 : IntKind.u8.min = 0 := rfl
      have h2 : IntKind.u8.max = 255 := rfl
      simp only [Lit.wf, Bool.and_eq_true, decide_eq_true_eq] at hw
      omega
    rw [show zs.getD j 0 = zs[j] by simp [List.getD, List.getElem?_eq_getElem (show j < zs.length by omega)], ← hj]
    congr 2
    rw [UInt8.toNat_ofNat']
    omega

end Go.Proofs.YtgcccihnlecpnaaGreatDoor
