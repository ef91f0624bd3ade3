/-
  The law's awake: the document's examples. No conditions beyond those stated.
-/
import Derived.Test.YtdcaohnaiepllaaGreatDoorJRB
import Derived.Test.YtdcaohnaiepllaaGreatDoorJW3
namespace Go.Proofs.YtdcaohnaiepllaaGreatDoor
open Go.RowKit Go.Extern.Stop Go.Stop Go.Extern

def aw1 : List UInt8 := [123, 34, 98, 34, 58, 49, 44, 32, 34, 97, 34, 58, 91, 93, 125]
def aw2 : List UInt8 := [49, 46, 48]
def aw3 : List UInt8 := [123, 34, 97, 34, 58, 49, 44, 34, 97, 34, 58, 50, 125]
def awV : V := objV [(⟨#[97]⟩, listV []), (⟨#[98]⟩, intV 1)]
set_option maxRecDepth 100000 in
theorem parse_aw1 : parseP aw1 = .ok awV := by kernel_rfl
set_option maxRecDepth 100000 in
theorem parse_aw2 : parseP aw2 = .error 4 := by kernel_rfl
set_option maxRecDepth 100000 in
theorem parse_aw3 : parseP aw3 = .error 5 := by kernel_rfl
theorem print_awV : printV 17 awV = [123, 34, 97, 34, 58, 91, 93, 44, 34, 98, 34, 58, 49, 125] := by kernel_rfl

theorem Flt.code {c : Int} {w : World} {x : Value} (h : Flt c w x) (hE : JEnv w) : Calls Tryz.prog 12 #[x] w fun e w' => e = .returned (.int .i64 c) ∧ Below w.heap.size w w' := by
  obtain ⟨ps, h⟩ := h
  exact Code_some ps c x w hE.text.handle h
theorem AnsP.fault {W w' : World} {c : Int} {e : Ending} (h : AnsP W (.error c) e w') : ∃ u z, e = .returned (.tuple #[zeroA, .iface u z]) ∧ Flt c w' (.iface u z) ∧ Below W.heap.size W w' := by
  obtain ⟨hb, x, e1, hx⟩ := h
  obtain ⟨u, z, rfl⟩ := hx.iface
  exact ⟨u, z, e1, hx, hb⟩
theorem AnsP.value {W w' : World} {v : V} {e : Ending} (h : AnsP W (.ok v) e w') : ∃ a1 c1 a2 c2, e = .returned (.tuple #[.agg #[.int .i64 v.kind, .int .i64 v.num, .string v.text, .slice a1 v.list.length c1, .slice a2 v.fields.length c2], .nilIface]) ∧ Rep (fun k => W.heap.size ≤ k) 16 w' v (.slice a1 v.list.length c1) (.slice a2 v.fields.length c2) ∧ Below W.heap.size W w' := by
  obtain ⟨hb, l, f, e1, hr⟩ := h
  obtain ⟨a1, c1, a2, c2, rfl, rfl⟩ := hr.slices
  exact ⟨a1, c1, a2, c2, e1, hr, hb⟩

theorem fit_aw : Fit 16 awV := by
  refine ⟨⟨by decide, by decide⟩, by decide, fun x hx => (by cases hx), fun p hp => ?_⟩
  rcases List.mem_cons.1 hp with rfl | hp
  · exact ⟨by decide, ⟨⟨by decide, by decide⟩, by decide, fun x hx => (by cases hx), fun p hp => (by cases hp)⟩⟩
  · rcases List.mem_cons.1 hp with rfl | hp
    · exact ⟨by decide, ⟨⟨by decide, by decide⟩, by decide, fun x hx => (by cases hx), fun p hp => (by cases hp)⟩⟩
    · cases hp

set_option maxRecDepth 100000 in
set_option maxHeartbeats 4000000 in
theorem awake_true (w : World) (hE : JEnv w) : Calls Tryz.prog 5 #[] w fun e w' => e = .returned (.bool true) ∧ Below w.heap.size w w' := by
  have hp1 := Parse_any ⟨#[123, 34, 98, 34, 58, 49, 44, 32, 34, 97, 34, 58, 91, 93, 125]⟩ w hE
  rw [show parseP (⟨#[123, 34, 98, 34, 58, 49, 44, 32, 34, 97, 34, 58, 91, 93, 125]⟩ : ByteArray).data.toList = .ok awV from parse_aw1] at hp1
  have hp2 := fun W (hW : Below w.heap.size w W) => Parse_any ⟨#[49, 46, 48]⟩ W (hE.below hW)
  have hp3 := fun W (hW : Below w.heap.size w W) => Parse_any ⟨#[123, 34, 97, 34, 58, 49, 44, 34, 97, 34, 58, 50, 125]⟩ W (hE.below hW)
  simp only [show parseP (⟨#[49, 46, 48]⟩ : ByteArray).data.toList = .error 4 from parse_aw2] at hp2
  simp only [show parseP (⟨#[123, 34, 97, 34, 58, 49, 44, 34, 97, 34, 58, 50, 125]⟩ : ByteArray).data.toList = .error 5 from parse_aw3] at hp3
  have HE := (show Hid _ from hE)
  clear hE
  go_enter Tryz.func5, Tryz.ntmps5
  go_wp2_with fail
  refine hp1.mono ?_
  intro e w1 h1
  obtain ⟨a1, c1, a2, c2, rfl, hr1, hb1⟩ := h1.value
  obtain ⟨v0, hv0⟩ : ∃ v, v = awV := ⟨_, rfl⟩
  rw [← hv0] at hr1 ⊢
  obtain ⟨O1, hO1⟩ : ∃ O, O = Obj.cells #[.int .i64 v0.kind, .int .i64 v0.num, .string v0.text, .slice a1 v0.list.length c1, .slice a2 v0.fields.length c2] 31 := ⟨_, rfl⟩
  have hB1 : Below w.heap.size w (w1.alloc O1) := hb1.alloc hb1.size _
  have hc2 := hp2 _ hB1
  rw [hO1] at hc2
  have H1 := (show Hid _ from And.intro hr1 (And.intro hb1 (And.intro hv0 (And.intro hO1 hB1))))
  clear hp1 hp2 h1 hr1 hb1 hv0 hO1 hB1
  go_wp2_with fail
  refine hc2.mono ?_
  intro e w2 h2
  obtain ⟨u2, z2, rfl, hx2, hb2⟩ := h2.fault
  obtain ⟨hr1, hb1, hv0, hO1, hB1⟩ := H1.out
  rw [← hO1] at hb2
  obtain ⟨O2, hO2⟩ : ∃ O, O = Obj.cells #[.int .i64 0, .int .i64 0, .string ⟨#[]⟩, .slice none 0 0, .slice none 0 0] 31 := ⟨_, rfl⟩
  have hB2 : Below w.heap.size w w2 := hB1.trans (hb2.mono hB1.size)
  have hB2' : Below w.heap.size w (w2.alloc O2) := hB2.alloc hB2.size _
  have hc3 := hp3 _ hB2'
  rw [hO2] at hc3
  have H2 := (show Hid _ from And.intro hx2 (And.intro hb2 (And.intro hO2 (And.intro hB2 hB2'))))
  clear hp3 hc2 h2 hr1 hb1 hv0 hO1 hB1 hx2 hb2 hO2 hB2 hB2'
  go_wp2_with fail
  refine hc3.mono ?_
  intro e w3 h3
  obtain ⟨u3, z3, rfl, hx3, hb3⟩ := h3.fault
  obtain ⟨hr1, hb1, hv0, hO1, hB1⟩ := H1.out
  obtain ⟨hx2, hb2, hO2, hB2, hB2'⟩ := H2.out
  rw [← hO2] at hb3
  obtain ⟨O3, hO3⟩ : ∃ O, O = Obj.cells #[.int .i64 0, .int .i64 0, .string ⟨#[]⟩, .slice none 0 0, .slice none 0 0] 31 := ⟨_, rfl⟩
  have hB3 : Below w.heap.size w w3 := hB2'.trans (hb3.mono hB2'.size)
  have hB3' : Below w.heap.size w (w3.alloc O3) := hB3.alloc hB3.size _
  have hA1 : Below w1.heap.size w1 (w1.alloc O1) := (Below.refl _ _).alloc (Nat.le_refl _) _
  have hA2 : Below w2.heap.size w2 (w2.alloc O2) := (Below.refl _ _).alloc (Nat.le_refl _) _
  have hA3 : Below w3.heap.size w3 (w3.alloc O3) := (Below.refl _ _).alloc (Nat.le_refl _) _
  have h12 : Below (w1.alloc O1).heap.size (w1.alloc O1) w3 := (hb2.trans (hA2.mono hb2.size)).trans (hb3.mono (Nat.le_trans hb2.size hA2.size))
  have h23 : Below w2.heap.size w2 (w3.alloc O3) := (hA2.trans (hb3.mono hA2.size)).trans (hA3.mono (Nat.le_trans hA2.size hb3.size))
  have r1 : w3.heap[w1.heap.size]? = some (.cells #[.int .i64 v0.kind, .int .i64 v0.num, .string v0.text, .slice a1 v0.list.length c1, .slice a2 v0.fields.length c2] 31 (0, 0)) := by rw [h12.block _ (by simp), heap_alloc_new, hO1]
  obtain ⟨j0, j1, j2, j3, j4, jf⟩ := row5 r1
  have hlt1 := lt_of_heap r1
  have hl3 : Lies 16 (w3.alloc O3) v0 (.slice a1 v0.list.length c1) (.slice a2 v0.fields.length c2) := (((hr1.below hA1).below h12).below hA3).lies
  have hpr := Print_any 16 v0 _ _ _ (HE.out.below hB3') hl3 (by rw [hv0]; exact fit_aw) (by rw [hv0, print_awV]; decide)
  rw [show printV (16 + 1) v0 = _ from (congrArg (printV 17) hv0).trans print_awV, hO3] at hpr
  have hcx2 := fun W (hW : Below (w3.alloc O3).heap.size (w3.alloc O3) W) => (hx2.below (h23.trans (hW.mono h23.size))).code (HE.out.below (hB3'.trans (hW.mono hB3'.size)))
  have hcx3 := fun W (hW : Below (w3.alloc O3).heap.size (w3.alloc O3) W) => (hx3.below (hA3.trans (hW.mono hA3.size))).code (HE.out.below (hB3'.trans (hW.mono hB3'.size)))
  rw [hO3] at hcx2 hcx3
  have H3 := (show Hid _ from And.intro hB3' hO3)
  clear hc3 h3 hr1 hb1 hv0 hO1 hB1 hx2 hb2 hO2 hB2 hB2' hx3 hb3 hO3 hB3 hB3' hA1 hA2 hA3 h12 h23 r1 hl3
  go_wp2_with fail
  refine hpr.mono ?_
  rintro e w4 ⟨rfl, hb4⟩
  go_wp2_with fail
  refine (hcx2 _ hb4).mono ?_
  rintro e w5 ⟨rfl, hb5⟩
  have hb45 := hb4.trans (hb5.mono hb4.size)
  go_wp2_with fail
  refine (hcx3 _ hb45).mono ?_
  rintro e w6 ⟨rfl, hb6⟩
  go_wp2_with fail
  go_ret
  obtain ⟨hB3', hO3⟩ := H3.out
  rw [← hO3] at hb45
  exact ⟨rfl, (hB3'.trans (hb45.mono hB3'.size)).trans (hb6.mono (Nat.le_trans hB3'.size hb45.size))⟩
end Go.Proofs.YtdcaohnaiepllaaGreatDoor
