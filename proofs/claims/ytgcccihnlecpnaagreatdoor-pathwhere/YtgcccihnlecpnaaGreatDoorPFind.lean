/-
  package path's find and Find by their contracts. Conditions: as stated (parts of at most 2^40 bytes).
-/
import Derived.Test.YtgcccihnlecpnaaGreatDoorPStep
namespace Go.Proofs.YtgcccihnlecpnaaGreatDoor
open Go.RowKit

/-- a slice of texts. -/
def StrsAt (W : World) (s : Value) (ps : List ByteArray) : Prop :=
  ∃ (a : Option Addr) (cap : Nat), s = .slice a ps.length cap ∧ ps.length ≤ cap ∧ cap ≤ 9223372036854775807 ∧ (ps ≠ [] → ∃ b o, a = some ⟨b, o, none⟩ ∧ ∀ (j : Nat) (u : ByteArray), ps[j]? = some u → W.cell? ⟨b, o + j, none⟩ = some (.string u))
theorem StrsAt.below {W W' : World} {s : Value} {ps : List ByteArray} (h : StrsAt W s ps) (hb : Below W.heap.size W W') : StrsAt W' s ps := by
  obtain ⟨a, cap, h1, h2, h3, h4⟩ := h
  refine ⟨a, cap, h1, h2, h3, fun hne => ?_⟩
  obtain ⟨b, o, h5, h6⟩ := h4 hne
  exact ⟨b, o, h5, fun j u hj => by rw [hb.cell (lt_of_cell (h6 j u hj))]; exact h6 j u hj⟩

theorem At.below {m : Nat} {W W' : World} {B o : Nat} {v : V} {l f : Value} (h : At m W B o v l f) (hb : Below W.heap.size W W') : At m W' B o v l f := by
  obtain ⟨c0, c1, c2, c3, c4, hL⟩ := h
  have hl := lt_of_cell c0
  exact ⟨(hb.cell (p := ⟨B, o, none⟩) hl).trans c0, (hb.cell (p := ⟨B, o + 1, none⟩) hl).trans c1, (hb.cell (p := ⟨B, o + 2, none⟩) hl).trans c2, (hb.cell (p := ⟨B, o + 3, none⟩) hl).trans c3, (hb.cell (p := ⟨B, o + 4, none⟩) hl).trans c4, hL.below hb⟩

/-- what is kept while one goes along a way: of the parts that are left, and of the place where one is. -/
structure Going (Inv : List ByteArray → World → Nat → Nat → V → Value → Value → Prop) : Prop where
  below : ∀ {ps W W' B o v l f}, Inv ps W B o v l f → Below W.heap.size W W' → Inv ps W' B o v l f
  lies : ∀ {ps W B o v l f}, Inv ps W B o v l f → ∃ m, At m W B o v l f
  field : ∀ {p ps W B o v l f} {j C c : Nat} {q : ByteArray} {y : V}, Inv (p :: ps) W B o v l f → v.kind = 5 → v.fields[j]? = some (q, y) → whereI (isName p) v.fields = (j : Nat) → atP v p = some y → f = .slice (some ⟨C, 0, none⟩) v.fields.length c → ∃ yl yf, Inv ps W C (j * 6 + 1) y yl yf
  list : ∀ {p ps W B o v l f} {j C c : Nat} {y : V}, Inv (p :: ps) W B o v l f → v.kind = 4 → placeOf p = some j → v.list[j]? = some y → atP v p = some y → l = .slice (some ⟨C, 0, none⟩) v.list.length c → ∃ yl yf, Inv ps W C (j * 5) y yl yf

theorem find_cons_none {v : V} {p : ByteArray} {ps : List ByteArray} (h : atP v p = none) : findP v (p :: ps) = none := by
  show (atP v p).bind _ = none
  rw [h]; rfl
theorem find_cons_some {v y : V} {p : ByteArray} {ps : List ByteArray} (h : atP v p = some y) : findP v (p :: ps) = findP y ps := by
  show (atP v p).bind _ = _
  rw [h]; rfl

/-- what find tells. -/
def FoundAt (Inv : World → Nat → Nat → V → Value → Value → Prop) (w : World) : Option V → Ending → Prop
  | none, e => e = .returned (.pointer none)
  | some u, e => ∃ b o ul uf, e = .returned (.pointer (some ⟨b, o, none⟩)) ∧ Inv w b o u ul uf

set_option maxHeartbeats 2000000 in
theorem find6_any {Inv : List ByteArray → World → Nat → Nat → V → Value → Value → Prop} (G : Going Inv) (ps : List ByteArray) (s : Value) (b o : Nat) (v : V) (l f : Value) (w : World) (hE : PEnv w) (hp : ∀ p ∈ ps, p.size ≤ 1099511627776) (hs : StrsAt w s ps) (h : Inv ps w b o v l f) :
    Calls Tryz.prog 18 #[.pointer (some ⟨b, o, none⟩), s] w fun e w' => Below w.heap.size w w' ∧ FoundAt (Inv []) w' (findP v ps) e := by
  obtain ⟨a, cap, rfl, hc1, hc2, hcells⟩ := hs
  go_enter Tryz.func18, Tryz.ntmps18
  go_wp2
  go_loopg [0, 6, 9] ps.length (fun gg vp _ i wr => ∃ (k B O : Nat) (u : V) (ul uf : Value), k ≤ ps.length ∧ ps.length - k ≤ gg ∧ i = .int .i64 k ∧ vp = .pointer (some ⟨B, O, none⟩) ∧ Aside (Below w.heap.size w wr ∧ Inv (ps.drop k) wr B O u ul uf ∧ findP v ps = findP u (ps.drop k)))
  case atStart => exact ⟨0, b, o, v, l, f, Nat.zero_le _, by omega, rfl, rfl, Below.refl _ _, h, rfl⟩
  case round =>
    obtain ⟨k, B, O, u, ul, uf, hk, hgg, rfl, rfl, R⟩ := hrel
    by_cases hlt : k < ps.length
    · obtain ⟨hB, hI, hF⟩ := R.out
      obtain ⟨p, hpk⟩ : ∃ p, ps[k]? = some p := ⟨_, List.getElem?_eq_getElem hlt⟩
      have hdrop : ps.drop k = p :: ps.drop (k + 1) := by
        rw [List.drop_eq_getElem_cons hlt, ← (List.getElem?_eq_some_iff.1 hpk).2]
      obtain ⟨ab, ao, rfl, hcell⟩ := hcells (fun e => by rw [e] at hlt; simp at hlt)
      have c0 := hcell k p hpk
      have c0' : wr.cell? ⟨ab, ao + k, none⟩ = some (.string p) := (hB.cell (lt_of_cell c0)).trans c0
      have zk : (k : Int) < (ps.length : Int) := by omega
      rw [hdrop] at hI hF
      obtain ⟨m, hat⟩ := G.lies hI
      have hcall := step6_any m u ul uf B O p wr (hE.below hB) (hp p (List.mem_of_getElem? hpk)) hat
      clear hcell hat hcells c0 h
      go_wp2_with fail
      refine hcall.mono ?_
      rintro e w1 ⟨hst, hb1⟩
      have hI1 := G.below hI hb1
      have hB1 := hB.trans (hb1.mono hB.size)
      rcases hst with ⟨hn, rfl⟩ | ⟨h5, j, q, y, C, c, hj, hw, ha, hf, rfl⟩ | ⟨h4, j, y, C, c, hpl, hj, ha, hl, rfl⟩
      · have hres : findP v ps = none := by rw [hF, find_cons_none hn]
        clear hcall hI hI1 hF
        go_wp2
        go_ret
        refine ⟨hB1, ?_⟩
        rw [hres]
        rfl
      · obtain ⟨yl, yf, hI2⟩ := G.field hI1 h5 hj hw ha hf
        have hF2 := hF.trans (find_cons_some ha)
        have S := (show Aside _ from And.intro hB1 (And.intro hI2 hF2))
        clear hcall hI hI1 hI2 hF hF2 hB1
        go_wp2
        go_roundg (ps.length - (k + 1))
        case measure => omega
        case rel => exact ⟨k + 1, C, j * 6 + 1, y, yl, yf, by omega, by omega, by go_num, rfl, S⟩
      · obtain ⟨yl, yf, hI2⟩ := G.list hI1 h4 hpl hj ha hl
        have hF2 := hF.trans (find_cons_some ha)
        have S := (show Aside _ from And.intro hB1 (And.intro hI2 hF2))
        clear hcall hI hI1 hI2 hF hF2 hB1
        go_wp2
        go_roundg (ps.length - (k + 1))
        case measure => omega
        case rel => exact ⟨k + 1, C, j * 5, y, yl, yf, by omega, by omega, by go_num, rfl, S⟩
    · have zk : ¬ (k : Int) < (ps.length : Int) := by omega
      clear hcells h
      go_wp2
      go_ret
      obtain ⟨hB, hI, hF⟩ := R.out
      have hd : ps.drop k = [] := List.drop_of_length_le (by omega)
      rw [hd] at hI hF
      refine ⟨hB, ?_⟩
      rw [hF]
      exact ⟨B, O, ul, uf, rfl, hI⟩

/-- one who only looks. -/
theorem going_look : Going fun _ W B o v l f => ∃ m, At m W B o v l f where
  below := fun ⟨m, h⟩ hb => ⟨m, h.below hb⟩
  lies := fun h => h
  field := fun {p ps W B o v l f j C c q y} ⟨m, h⟩ hk hj _ _ hf => by
    subst hf
    obtain ⟨_, _, _, _, _, hL⟩ := h
    obtain ⟨-, ⟨fs, f1, f2, f3⟩⟩ := Rep.up hL
    obtain ⟨⟨en, ev, el, ef⟩, he⟩ : ∃ e, fs[j]? = some e := by
      rw [← f1, List.getElem?_map] at hj
      obtain ⟨e, he, _⟩ := Option.map_eq_some_iff.1 hj
      exact ⟨e, he⟩
    rw [← f1, List.getElem?_map, he] at hj
    simp only [Option.map_some, Fl.pair, Option.some.injEq, Prod.mk.injEq] at hj
    obtain ⟨rfl, rfl⟩ := hj
    have hfl : fs.length = v.fields.length := by rw [← f1, List.length_map]
    rw [hfl] at f2
    obtain ⟨a0, a1, a2, a3, a4, a5⟩ := f2.fl he
    exact ⟨el, ef, m, a1, a2, a3, a4, a5, f3 _ (List.mem_of_getElem? he)⟩
  list := fun {p ps W B o v l f j C c y} ⟨m, h⟩ hk _ hj _ hl => by
    subst hl
    obtain ⟨_, _, _, _, _, hL⟩ := h
    obtain ⟨⟨es, e1, e2, e3⟩, -⟩ := Rep.up hL
    obtain ⟨⟨ev, el, ef⟩, he⟩ : ∃ e, es[j]? = some e := by
      rw [← e1, List.getElem?_map] at hj
      obtain ⟨e, he, _⟩ := Option.map_eq_some_iff.1 hj
      exact ⟨e, he⟩
    rw [← e1, List.getElem?_map, he] at hj
    simp only [Option.map_some, Option.some.injEq] at hj
    subst hj
    have hel : es.length = v.list.length := by rw [← e1, List.length_map]
    rw [hel] at e2
    obtain ⟨a1, a2, a3, a4, a5⟩ := e2.el he
    exact ⟨el, ef, m, a1, a2, a3, a4, a5, e3 _ (List.mem_of_getElem? he)⟩
end Go.Proofs.YtgcccihnlecpnaaGreatDoor
