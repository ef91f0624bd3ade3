/-
  What the rows of this seat share: the listed variables' cells, a world that lays them, slices of bytes that come in. No conditions beyond those stated.
-/
import Derived.Test.YtjihfbahcebljaaDoorVMade5
import Derived.Test.YtjihfbahcebljaaDoorHAct
import Derived.Test.YtjihfbahcebljaaDoorCards
import Derived.Test.YtjihfbahcebljaaDoorTie
import Derived.ProofKit
import Derived.OpenShut
import Derived.Carry
import Derived.LaidHandle
import Derived.LaidLaws
import Derived.Deep.DeepHandedRow
import Derived.Deep.Strs
import Derived.Lib.LaidTab
import Derived.PinnedBridge
namespace Go.Proofs.YtjihfbahcebljaaDoor
open Go.RowKit Go.Extern.Stop Go.Stop Go.Extern

theorem own : ownKnob Tryd.prog.godebug = none := by kernel_rfl
theorem laidOut : laidOutB Tryd.prog = true := by kernel_rfl
theorem cellsStr : Tryd.prog.cellsOf 9 = 1 := by kernel_rfl
theorem cellsU8 : Tryd.prog.cellsOf 5 = 1 := by kernel_rfl

theorem cells_of_strs {H : Type} {enc : TypeId × Value → H} {w : World} {base : Nat} {sp : Nat → Bool} {held : Bool} {fuel : Nat} {t : TypeId} {n : Nat} {cs : List Value} {ws : List (List UInt8)} {p : List MemPlace}
    (ht : Tryd.prog.underlying t = some (.array n 9)) (h : DataW.trod enc Tryd.prog w base sp held fuel t cs = some (.agg (ws.map fun s => .lit (.string s)), p)) (i : Nat) (hi : i < n) : ∃ u, ws[i]? = some u ∧ cs[i]? = some (.string ⟨u.toArray⟩) := by
  obtain ⟨xs, m, _, hx, _, hl, he⟩ := DataW.trod_array ht h
  have h1 := he i hi
  rw [cellsStr, Nat.mul_one, List.getElem?_eq_getElem (by omega)] at h1
  obtain ⟨s, hc, hs, _⟩ := DataW.trod_string Tryd.underlying9 h1
  simp only [Prod.mk.injEq, DataW.agg.injEq] at hx
  have h2 : (xs.map (·.1))[i]? = some (.lit (.string s.data.toList)) := by rw [List.getElem?_map, List.getElem?_eq_getElem (by omega), hs]; rfl
  rw [← hx.1, List.getElem?_map] at h2
  obtain ⟨u, hu1, hu2⟩ := Option.map_eq_some_iff.1 h2
  simp only [DataW.lit.injEq, Lit.string.injEq] at hu2
  refine ⟨u, hu1, ?_⟩
  have h3 := congrArg (·[0]?) hc
  simp only [List.getElem?_take, List.getElem?_drop] at h3
  simp at h3
  rw [h3, hu2]

theorem gWords : Tryd.prog.globalNamed "roundelay/roundelaylaw03.words" = some 0 := by kernel_rfl
theorem gNames : Tryd.prog.globalNamed "roundelay/roundelaylaw03.names" = some 1 := by kernel_rfl
theorem gWordsT : (Tryd.prog.globals[0]?).map (·.type) = some 78 := by kernel_rfl
theorem gNamesT : (Tryd.prog.globals[1]?).map (·.type) = some 79 := by kernel_rfl

abbrev laid2 : List (String × DataW Unit) := [("roundelay/roundelaylaw03.words", Rows.laid_roundelay_roundelaylaw03_words), ("roundelay/roundelaylaw03.names", Rows.laid_roundelay_roundelaylaw03_names)]
/-- the listed variables hold what they are laid as. -/
theorem env_of_laid {W : World} (h : laidMetH Tryd.prog laid2 W) : Tabs W := by
  have hm : laidMet Tryd.prog laid2 W := h
  refine ⟨?_, ?_⟩
  · obtain ⟨g, t, cs, fuel, p, hg, hty, hvar, hd⟩ := Lib.laidMet.reads hm (n := "roundelay/roundelaylaw03.words") (d := Rows.laid_roundelay_roundelaylaw03_words) (by simp)
    obtain rfl := Option.some.inj (gWords.symm.trans hg)
    obtain rfl := Option.some.inj (gWordsT.symm.trans hty)
    intro i hi
    obtain ⟨u, hu1, hu2⟩ := cells_of_strs (ws := [[], [97], [98], [97, 98], [0], [195, 169], [122, 0], [108, 111, 110, 103, 44, 32, 97, 110, 100, 32, 108, 111, 110, 103, 101, 114]]) Tryd.underlying78 hd i hi
    have h1 := World.var?_cell gWords hvar i
    rw [show cs[i]? = some (.string ⟨u.toArray⟩) by simpa using hu2] at h1
    rw [h1]
    match i, hi, hu1 with
    | 0, _, h => cases h; rfl
    | 1, _, h => cases h; rfl
    | 2, _, h => cases h; rfl
    | 3, _, h => cases h; rfl
    | 4, _, h => cases h; rfl
    | 5, _, h => cases h; rfl
    | 6, _, h => cases h; rfl
    | 7, _, h => cases h; rfl
  · obtain ⟨g, t, cs, fuel, p, hg, hty, hvar, hd⟩ := Lib.laidMet.reads hm (n := "roundelay/roundelaylaw03.names") (d := Rows.laid_roundelay_roundelaylaw03_names) (by simp)
    obtain rfl := Option.some.inj (gNames.symm.trans hg)
    obtain rfl := Option.some.inj (gNamesT.symm.trans hty)
    intro i hi
    obtain ⟨u, hu1, hu2⟩ := cells_of_strs (ws := [[97], [98], [99], [110]]) Tryd.underlying79 hd i hi
    have h1 := World.var?_cell gNames hvar i
    rw [show cs[i]? = some (.string ⟨u.toArray⟩) by simpa using hu2] at h1
    rw [h1]
    match i, hi, hu1 with
    | 0, _, h => cases h; rfl
    | 1, _, h => cases h; rfl
    | 2, _, h => cases h; rfl
    | 3, _, h => cases h; rfl

def putCells (cs : Array Value) : Obj → Obj
  | .cells _ t frozen => .cells cs t frozen
  | o => o
/-- a world that meets the condition: the variables' cells laid. -/
def laidOn (w : World) : World := { w with heap := (w.heap.modify 0 (putCells #[.string (wordAt 0), .string (wordAt 1), .string (wordAt 2), .string (wordAt 3), .string (wordAt 4), .string (wordAt 5), .string (wordAt 6), .string (wordAt 7)])).modify 1 (putCells #[.string (nameAt 0), .string (nameAt 1), .string (nameAt 2), .string (nameAt 3)]) }
theorem laidWorld_met (os : Os) (args : Array Value) : laidMetH Tryd.prog laid2 ((laidOn (World.holding Tryd.prog os ⟨#[], #[], []⟩)).forCall (fun _ _ => 0) ⟨#[], args, []⟩).memory :=
  laidMetH_of_parts (laidMet_of_run' 8 (by kernel_rfl) (by kernel_rfl)) (by kernel_rfl)

open Go.ChangeShapes Go.WideShapes Go.ChangeAt in
/-- a slice of bytes that came in. -/
theorem open_bytesAt {H : Type} {enc : TypeId × Value → H} {W : World} {base : Nat} {v : Value} {d : DataW H} {p : List MemPlace} (hval : Value.okWide Tryd.prog W .any base 27 v) (h : DataW.Trod enc Tryd.prog W 0 (fun _ => true) true 27 v d p) : ∃ bs, BytesAt W v bs := by
  obtain ⟨a1, len, cap, rfl⟩ := okWide_slice Tryd.underlying27 hval
  obtain ⟨fuel, hf⟩ := h
  rcases open_ints Tryd.underlying27 Tryd.underlying5 cellsU8 hf with ⟨hcs, hx⟩ | ⟨a, len', cap', zs, hcs, _, hl, hm, hz, hx, hcell, hwz⟩
  · simp [Value.cells] at hcs
    obtain ⟨rfl, rfl, rfl⟩ := hcs
    exact ⟨[], none, 0, rfl, Nat.le_refl _, by omega, fun h => absurd rfl h⟩
  · simp [Value.cells] at hcs
    obtain ⟨rfl, rfl, rfl⟩ := hcs
    simp only [if_true] at hz
    have hlen : ((zs.take len).map fun n => UInt8.ofNat n.toNat).length = len := by simp; omega
    refine ⟨(zs.take len).map fun n => UInt8.ofNat n.toNat, some a, cap, by rw [hlen], by omega, by unfold maxLen at hm; omega, fun hne => ?_⟩
    have h0 : 0 < len := by
      rcases Nat.eq_zero_or_pos len with h | h
      · exact absurd (List.eq_nil_of_length_eq_zero (by rw [hlen]; exact h)) hne
      · exact h
    obtain ⟨ab, ao, spot⟩ := a
    have hspot : spot = none := by simpa [Addr.add] using World.cell?_spot (hcell 0 (by omega))
    subst hspot
    refine ⟨ab, ao, rfl, fun j u hj => ?_⟩
    have hjl : j < len := by rw [← hlen]; exact (List.getElem?_eq_some_iff.1 hj).1
    have hc := hcell j (by omega)
    rw [Addr.add_lit] at hc
    rw [hc]
    rw [List.getElem?_map, List.getElem?_take, if_pos hjl, List.getElem?_eq_getElem (by omega)] at hj
    simp only [Option.map_some, Option.some.injEq] at hj
    have hw := hwz zs[j] (List.getElem_mem _)
    have hb : 0 ≤ zs[j] ∧ zs[j] < 256 := by
      have h1 : IntKind.u8.min = 0 := rfl
      have h2 : IntKind.u8.max = 255 := rfl
      simp only [Lit.wf, Bool.and_eq_true, decide_eq_true_eq] at hw
      omega
    rw [show zs.getD j 0 = zs[j] by simp [List.getD, List.getElem?_eq_getElem (show j < zs.length by omega)], ← hj]
    congr 2
    rw [UInt8.toNat_ofNat']
    omega

theorem cellsAct : Tryd.prog.cellsOf 29 = 3 := by kernel_rfl
theorem cellsBs : Tryd.prog.cellsOf 27 = 1 := by kernel_rfl
open Go.ChangeShapes Go.WideShapes Go.ChangeAt in
/-- a slice of bytes by its cell. -/
theorem bytes_of_cell {H : Type} {enc : TypeId × Value → H} {W : World} {fuel : Nat} {cs : List Value} {x : DataW H × List MemPlace} (hf : DataW.trod enc Tryd.prog W 0 (fun _ => true) true fuel 27 cs = some x) : ∃ v bs, cs = [v] ∧ BytesAt W v bs := by
  rcases open_ints Tryd.underlying27 Tryd.underlying5 cellsU8 hf with ⟨hcs, hx⟩ | ⟨a, len, cap, zs, hcs, _, hl, hm, hz, hx, hcell, hwz⟩
  · exact ⟨_, [], hcs, none, 0, rfl, Nat.le_refl _, by omega, fun h => absurd rfl h⟩
  · simp only [if_true] at hz
    have hlen : ((zs.take len).map fun n => UInt8.ofNat n.toNat).length = len := by simp; omega
    refine ⟨_, (zs.take len).map fun n => UInt8.ofNat n.toNat, hcs, some a, cap, by rw [hlen], by omega, by unfold maxLen at hm; omega, fun hne => ?_⟩
    have h0 : 0 < len := by
      rcases Nat.eq_zero_or_pos len with h | h
      · exact absurd (List.eq_nil_of_length_eq_zero (by rw [hlen]; exact h)) hne
      · exact h
    obtain ⟨ab, ao, spot⟩ := a
    have hspot : spot = none := by simpa [Addr.add] using World.cell?_spot (hcell 0 (by omega))
    subst hspot
    refine ⟨ab, ao, rfl, fun j u hj => ?_⟩
    have hjl : j < len := by rw [← hlen]; exact (List.getElem?_eq_some_iff.1 hj).1
    have hc := hcell j (by omega)
    rw [Addr.add_lit] at hc
    rw [hc]
    rw [List.getElem?_map, List.getElem?_take, if_pos hjl, List.getElem?_eq_getElem (by omega)] at hj
    simp only [Option.map_some, Option.some.injEq] at hj
    have hw := hwz zs[j] (List.getElem_mem _)
    have hb : 0 ≤ zs[j] ∧ zs[j] < 256 := by
      have h1 : IntKind.u8.min = 0 := rfl
      have h2 : IntKind.u8.max = 255 := rfl
      simp only [Lit.wf, Bool.and_eq_true, decide_eq_true_eq] at hw
      omega
    rw [show zs.getD j 0 = zs[j] by simp [List.getD, List.getElem?_eq_getElem (show j < zs.length by omega)], ← hj]
    congr 2
    rw [UInt8.toNat_ofNat']
    omega

open Go.ChangeShapes Go.WideShapes Go.ChangeAt in
/-- a slice of deeds that came in. -/
theorem open_acts {H : Type} {enc : TypeId × Value → H} {W : World} {base : Nat} {v : Value} {d : DataW H} {p : List MemPlace} (hval : Value.okWide Tryd.prog W .any base 22 v) (h : DataW.Trod enc Tryd.prog W 0 (fun _ => true) true 22 v d p) : ∃ acts, ActsAt W v acts := by
  obtain ⟨a1, len, cap, rfl⟩ := okWide_slice Tryd.underlying22 hval
  obtain ⟨fuel, hf⟩ := h
  rcases Go.Deep.open_slice Tryd.underlying22 hf with ⟨hcs, hx⟩ | ⟨a, len', cap', m, n, D, Pl, hcs, hb, hl, hm, hmm, hx, hel⟩
  · simp [Value.cells] at hcs
    obtain ⟨rfl, rfl, rfl⟩ := hcs
    exact ⟨[], none, 0, rfl, Nat.le_refl _, by omega, fun e he => (by cases he), fun h => absurd rfl h⟩
  · simp [Value.cells] at hcs
    obtain ⟨rfl, rfl, rfl⟩ := hcs
    simp only [if_true] at hmm
    subst hmm
    have each : ∀ i, i < m → ∃ e : Ac, (0 ≤ e.kind ∧ e.kind < 256 ∧ 0 ≤ e.id ∧ e.id < 256 ∧ BytesAt W e.b e.bs) ∧ W.cell? (a.add (i * 3)) = some (.int .u8 e.kind) ∧ W.cell? (a.add (i * 3 + 1)) = some (.int .u8 e.id) ∧ W.cell? (a.add (i * 3 + 2)) = some e.b := by
      intro i hi
      obtain ⟨cs', h1, h2⟩ := hel i hi
      rw [cellsAct] at h1
      obtain ⟨_, hlen, hcell⟩ := World.cells?_some h1
      obtain ⟨y0, y1, y2, n', _, _, g0, g1, g2⟩ := Go.Deep.trod_struct3 Tryd.underlying29 h2
      match cs', hlen with
      | [u0, u1, u2], _ =>
        have e0 := hcell 0 (by omega)
        have e1 := hcell 1 (by omega)
        have e2 := hcell 2 (by omega)
        rw [Go.Deep.add_add] at e0 e1 e2
        simp [cellsU8] at g0 g1
        simp [cellsBs] at g2
        obtain ⟨k, hk, _, wk⟩ := DataW.trod_int Tryd.underlying5 g0
        obtain ⟨q, hq, _, wq⟩ := DataW.trod_int Tryd.underlying5 g1
        obtain ⟨bv, bs, hbv, hbs⟩ := bytes_of_cell g2
        simp only [List.cons.injEq, and_true] at hk hq hbv
        subst hk hq hbv
        have hr : ∀ {z : Int}, (Lit.int .u8 z).wf = true → 0 ≤ z ∧ z < 256 := fun {z} hw => by
          have h1 : IntKind.u8.min = 0 := rfl
          have h2 : IntKind.u8.max = 255 := rfl
          simp only [Lit.wf, Bool.and_eq_true, decide_eq_true_eq] at hw
          omega
        have hr1 := hr wk
        have hr2 := hr wq
        exact ⟨⟨k, q, u2, bs⟩, ⟨hr1.1, hr1.2, hr2.1, hr2.2, hbs⟩, by simpa using e0, by simpa using e1, by simpa using e2⟩

    obtain ⟨f, hf2⟩ : ∃ f : Nat → Ac, ∀ i, i < m → (0 ≤ (f i).kind ∧ (f i).kind < 256 ∧ 0 ≤ (f i).id ∧ (f i).id < 256 ∧ BytesAt W (f i).b (f i).bs) ∧ W.cell? (a.add (i * 3)) = some (.int .u8 (f i).kind) ∧ W.cell? (a.add (i * 3 + 1)) = some (.int .u8 (f i).id) ∧ W.cell? (a.add (i * 3 + 2)) = some (f i).b := by
      refine ⟨fun i => if h : i < m then (each i h).choose else ⟨0, 0, .bool false, []⟩, fun i hi => ?_⟩
      simp only [dif_pos hi]
      exact (each i hi).choose_spec
    have hlen : ((List.range len).map f).length = len := by simp
    refine ⟨(List.range len).map f, some a, m, by rw [hlen], by rw [hlen]; exact hl, by unfold maxLen at hm; omega, fun e he => ?_, fun hne => ?_⟩
    · obtain ⟨i, hi, rfl⟩ := List.mem_map.1 he
      exact (hf2 i (by have := List.mem_range.1 hi; omega)).1
    · have h0 : 0 < len := by
        rcases Nat.eq_zero_or_pos len with h | h
        · exact absurd (by rw [h]; rfl) hne
        · exact h
      obtain ⟨ab, ao, spot⟩ := a
      have hspot : spot = none := by simpa [Addr.add] using World.cell?_spot (hf2 0 (by omega)).2.1
      subst hspot
      refine ⟨ab, ao, rfl, fun j e hj => ?_⟩
      have hjl : j < len := by rw [← hlen]; exact (List.getElem?_eq_some_iff.1 hj).1
      rw [List.getElem?_map, List.getElem?_range hjl] at hj
      simp only [Option.map_some, Option.some.injEq] at hj
      subst hj
      obtain ⟨_, k0, k1, k2⟩ := hf2 j (by omega)
      rw [Addr.add_lit] at k0 k1 k2
      exact ⟨k0, by rw [Nat.add_assoc]; exact k1, by rw [Nat.add_assoc]; exact k2⟩
end Go.Proofs.YtjihfbahcebljaaDoor
