/-
  The law's awake: the document's examples. No conditions beyond those stated.
-/
import Derived.Test.YtgcccihnlecpnaaGreatDoorPParse
import Derived.Test.YtgcccihnlecpnaaGreatDoorPFind2
namespace Go.Proofs.YtgcccihnlecpnaaGreatDoor
open Go.RowKit

theorem lies_two {n : Nat} {W : World} {b : Nat} {x y : V} {lx fx ly fy : Value} {t1 : ByteArray} {m : Int}
    (h : W.heap[b]? = some (.cells #[.int .i64 x.kind, .int .i64 x.num, .string x.text, lx, fx, .int .i64 y.kind, .int .i64 y.num, .string y.text, ly, fy] 28 (0, 0))) (hx : Lies n W x lx fx) (hy : Lies n W y ly fy) :
    Lies (n + 1) W ⟨4, m, t1, [x, y], []⟩ (.slice (some ⟨b, 0, none⟩) 2 2) (.slice none 0 0) := by
  refine ⟨⟨[⟨x, lx, fx⟩, ⟨y, ly, fy⟩], rfl, ⟨⟨rfl, .inr ⟨b, 2, _, rfl, Nat.zero_le _, h, Nat.le_refl _, by decide, rfl, rfl⟩⟩, by simp, fun _ _ => trivial⟩, ?_⟩, ⟨[], rfl, RowAt.nil, fun e he => (by cases he)⟩⟩
  intro e he
  rcases List.mem_cons.1 he with rfl | he
  · exact hx
  · rcases List.mem_cons.1 he with rfl | he
    · exact hy
    · cases he
/-- an object of one. -/
theorem lies_one {n : Nat} {W : World} {b : Nat} {x : V} {nm : ByteArray} {lx fx : Value} {t1 : ByteArray} {m : Int}
    (h : W.heap[b]? = some (.cells #[.string nm, .int .i64 x.kind, .int .i64 x.num, .string x.text, lx, fx] 44 (0, 0))) (hx : Lies n W x lx fx) :
    Lies (n + 1) W ⟨5, m, t1, [], [(nm, x)]⟩ (.slice none 0 0) (.slice (some ⟨b, 0, none⟩) 1 1) := by
  refine ⟨⟨[], rfl, RowAt.nil, fun e he => (by cases he)⟩, ⟨[⟨nm, x, lx, fx⟩], rfl, ⟨⟨rfl, .inr ⟨b, 1, _, rfl, Nat.zero_le _, h, Nat.le_refl _, by decide, rfl, rfl⟩⟩, by simp, fun _ _ => trivial⟩, ?_⟩⟩
  intro e he
  rcases List.mem_cons.1 he with rfl | he
  · exact hx
  · cases he

def aw5 : V := ⟨2, 5, ⟨#[]⟩, [], []⟩
def aw6 : V := ⟨2, 6, ⟨#[]⟩, [], []⟩
def awL : V := ⟨4, 0, ⟨#[]⟩, [aw5, aw6], []⟩
def awV : V := ⟨5, 0, ⟨#[]⟩, [], [(⟨#[97]⟩, awL)]⟩
theorem valid_aw1 : Lib.validD [97, 46, 49] = true := by decide +kernel
theorem aw_parse : parsePP ⟨#[97, 46, 49]⟩ = some [⟨#[97]⟩, ⟨#[49]⟩] := by
  have hd : dots ⟨#[97, 46, 49]⟩ = [⟨#[97]⟩, ⟨#[49]⟩] := rfl
  rw [parse_good ⟨valid_aw1, by rw [hd]; decide, by
    rw [hd]
    intro p hp
    rcases List.mem_cons.1 hp with rfl | hp
    · decide
    · rcases List.mem_cons.1 hp with rfl | hp
      · decide
      · cases hp⟩, hd]
theorem aw_wrong : parsePP ⟨#[97, 46, 46, 98]⟩ = none := by
  refine parse_bad fun h => ?_
  have hd : dots ⟨#[97, 46, 46, 98]⟩ = [⟨#[97]⟩, ⟨#[]⟩, ⟨#[98]⟩] := rfl
  have := h.2.2 ⟨#[]⟩ (by rw [hd]; simp)
  exact absurd this.1 (by decide)
theorem aitoa1 : Lib.itoa 1 = [49] := by unfold Lib.itoa; rw [if_neg (by decide)]; show Lib.decDigits 1 = _; rw [Lib.decDigits]; rfl
theorem aplace1 : placeOf ⟨#[49]⟩ = some 1 := by
  show (if 0 ≤ (1 : Int) ∧ Lib.itoa 1 = [49] then some (1 : Int).toNat else none) = _
  rw [aitoa1]; rfl
theorem aw_find : findP awV [⟨#[97]⟩, ⟨#[49]⟩] = some aw6 := by
  have h1 : atP awV ⟨#[97]⟩ = some awL := by
    rw [at5 rfl, show awV.fields = [(⟨#[97]⟩, awL)] from rfl, getF_cons, if_pos (good_cmpT.refl _)]
  have h2 : atP awL ⟨#[49]⟩ = some aw6 := by rw [at4 rfl, aplace1]; rfl
  rw [find_cons_some h1, find_cons_some h2]; rfl

set_option maxRecDepth 100000 in
set_option maxHeartbeats 4000000 in
theorem awake_true (w : World) (hE : PEnv w) : Calls Tryz.prog 7 #[] w fun e w' => e = .returned (.bool true) ∧ Below w.heap.size w w' := by
  obtain ⟨W4, hW4⟩ : ∃ W, (((w.alloc (.cells #[.int .i64 2, .int .i64 5, .string ⟨#[]⟩, .slice none 0 0, .slice none 0 0, .int .i64 2, .int .i64 6, .string ⟨#[]⟩, .slice none 0 0, .slice none 0 0] 28)).alloc (.cells #[.int .i64 4, .int .i64 0, .string ⟨#[]⟩, .slice (some ⟨w.heap.size, 0, none⟩) 2 2, .slice none 0 0] 28)).alloc (.cells #[.string ⟨#[97]⟩, .int .i64 4, .int .i64 0, .string ⟨#[]⟩, .slice (some ⟨w.heap.size, 0, none⟩) 2 2, .slice none 0 0] 44)).alloc (.cells #[.int .i64 5, .int .i64 0, .string ⟨#[]⟩, .slice none 0 0, .slice (some ⟨w.heap.size + 1 + 1, 0, none⟩) 1 1] 28) = W := ⟨_, rfl⟩
  have hB4 : Below w.heap.size w W4 := by rw [← hW4]; exact ((((Below.refl _ _).alloc (Nat.le_refl _) _).alloc (by simp) _).alloc (by simp; omega) _).alloc (by simp; omega) _
  have r0 : W4.heap[w.heap.size]? = some (.cells #[.int .i64 2, .int .i64 5, .string ⟨#[]⟩, .slice none 0 0, .slice none 0 0, .int .i64 2, .int .i64 6, .string ⟨#[]⟩, .slice none 0 0, .slice none 0 0] 28) := by
    rw [← hW4, Below.heap_alloc _ _ _ (by simp; omega)]
    exact heap_alloc3_0
  have r2 : W4.heap[w.heap.size + 1 + 1]? = some (.cells #[.string ⟨#[97]⟩, .int .i64 4, .int .i64 0, .string ⟨#[]⟩, .slice (some ⟨w.heap.size, 0, none⟩) 2 2, .slice none 0 0] 44) := by
    rw [← hW4, Below.heap_alloc _ _ _ (by simp)]
    exact heap_alloc3_2
  have r3 : W4.heap[w.heap.size + 1 + 1 + 1]? = some (.cells #[.int .i64 5, .int .i64 0, .string ⟨#[]⟩, .slice none 0 0, .slice (some ⟨w.heap.size + 1 + 1, 0, none⟩) 1 1] 28) := by
    rw [← hW4]
    simpa using heap_alloc_new (((w.alloc (.cells #[.int .i64 2, .int .i64 5, .string ⟨#[]⟩, .slice none 0 0, .slice none 0 0, .int .i64 2, .int .i64 6, .string ⟨#[]⟩, .slice none 0 0, .slice none 0 0] 28)).alloc (.cells #[.int .i64 4, .int .i64 0, .string ⟨#[]⟩, .slice (some ⟨w.heap.size, 0, none⟩) 2 2, .slice none 0 0] 28)).alloc (.cells #[.string ⟨#[97]⟩, .int .i64 4, .int .i64 0, .string ⟨#[]⟩, .slice (some ⟨w.heap.size, 0, none⟩) 2 2, .slice none 0 0] 44)) _
  have hL : Lies 1 W4 awL (.slice (some ⟨w.heap.size, 0, none⟩) 2 2) (.slice none 0 0) := lies_two (x := aw5) (y := aw6) r0 ⟨rfl, rfl, rfl, rfl⟩ ⟨rfl, rfl, rfl, rfl⟩
  have hV : Lies 2 W4 awV (.slice none 0 0) (.slice (some ⟨w.heap.size + 1 + 1, 0, none⟩) 1 1) := lies_one (x := awL) r2 hL
  have hp1 := Parse6_any ⟨#[97, 46, 49]⟩ W4 (hE.below hB4) (by decide)
  rw [aw_parse] at hp1
  have HH := (show Hid _ from And.intro hE (And.intro hB4 (And.intro r3 hV)))
  clear r0 r2 r3 hL hV hB4 hE
  go_enter Tryz.func7, Tryz.ntmps7
  go_wp2_with fail
  refine hp1.mono ?_
  rintro e w5 ⟨hb5, sv, rfl, hst⟩
  obtain ⟨hE, hB4, r3, hV⟩ := HH.out
  have r3' := (hb5.block _ (lt_of_heap r3)).trans r3
  obtain ⟨x0, x1, x2, x3, x4, xf⟩ := row5 r3'
  have hf := Find6_any 2 [⟨#[97]⟩, ⟨#[49]⟩] sv awV _ _ w5 ((hE.below hB4).below hb5) (fun p hp => by
    rcases List.mem_cons.1 hp with rfl | hp
    · decide
    · rcases List.mem_cons.1 hp with rfl | hp
      · decide
      · cases hp) hst (hV.below hb5)
  rw [aw_find] at hf
  have hf' : Calls Tryz.prog 10 #[.agg #[.int .i64 5, .int .i64 0, .string ⟨#[]⟩, .slice none 0 0, .slice (some ⟨w.heap.size + 1 + 1, 0, none⟩) 1 1], sv] w5 fun e w' => ∃ l' f' m, e = .returned (.tuple #[.agg #[.int .i64 2, .int .i64 6, .string ⟨#[]⟩, l', f'], .bool true]) ∧ Lies m w' aw6 l' f' ∧ Below w5.heap.size w5 w' := hf
  obtain ⟨sa, sc, rfl, -⟩ := hst
  have hB5 := hB4.trans (hb5.mono hB4.size)
  have T := (show Hid _ from And.intro hB5 (hE.below hB5))
  clear hE hB4 r3 hV r3' hf hB5 hb5 hp1
  go_wp2_with fail
  refine hf'.mono ?_
  rintro e w6 ⟨l', f', m, rfl, hx, hb6⟩
  obtain ⟨z1, d1, z3, d3, e1, e2⟩ := Rep.slices hx
  have e1' : l' = .slice z1 0 d1 := e1
  have e2' : f' = .slice z3 0 d3 := e2
  subst e1' e2'
  obtain ⟨W7, hW7⟩ : ∃ W, w6.alloc (.cells #[.int .i64 2, .int .i64 6, .string ⟨#[]⟩, .slice z1 0 d1, .slice z3 0 d3] 28) = W := ⟨_, rfl⟩
  have hB7 : Below w5.heap.size w5 W7 := by rw [← hW7]; exact hb6.alloc hb6.size _
  have q7 : W7.heap[w6.heap.size]? = some (.cells #[.int .i64 2, .int .i64 6, .string ⟨#[]⟩, .slice z1 0 d1, .slice z3 0 d3] 28) := by rw [← hW7]; exact heap_alloc_new w6 _
  have hBw7 := T.out.1.trans (hB7.mono T.out.1.size)
  have hp2 := Parse6_any ⟨#[97, 46, 46, 98]⟩ W7 (T.out.2.below hB7) (by decide)
  rw [aw_wrong] at hp2
  have U := (show Hid _ from And.intro hBw7 (And.intro (T.out.2.below hB7) q7))
  clear hf' x0 x1 x2 x3 x4 xf hx e1 e2 hb6 hB7 hBw7 q7
  go_wp2_with fail
  refine hp2.mono ?_
  rintro e w8 ⟨hb8, ue, ze, rfl, hflt⟩
  obtain ⟨hBw7, hE7, q7⟩ := U.out
  have q8 := (hb8.block _ (lt_of_heap q7)).trans q7
  obtain ⟨x0, x1, x2, x3, x4, xf⟩ := row5 q8
  have hcode := hflt.code (hE7.below hb8)
  have hB8 := hBw7.trans (hb8.mono hBw7.size)
  clear hp2 hBw7 hE7 q7 q8 hflt hb8
  go_wp2_with fail
  refine hcode.mono ?_
  rintro e w9 ⟨rfl, hb9⟩
  go_wp2_with fail
  go_ret
  exact ⟨rfl, hB8.trans (hb9.mono hB8.size)⟩
end Go.Proofs.YtgcccihnlecpnaaGreatDoor
