/-
  package path's place and step by their contracts. Conditions: as stated (parts of at most 2^40 bytes).
  package path's find and Find by their contracts. Conditions: as stated (parts of at most 2^40 bytes).
  package path's Parse by its contract. Conditions: as stated (texts of at most 2^31 bytes).
  package path's Find by its contract. Conditions: as stated (parts of at most 2^40 bytes).
-/
import Derived.Test.YtfpkkobclkdniaaGreatDoorU9
import Derived.Test.YtfpkkobclkdniaaGreatDoorU2
import Derived.Test.YtfpkkobclkdniaaGreatDoorU10
import Derived.Test.YtfpkkobclkdniaaGreatDoorU5
import Derived.Test.YtfpkkobclkdniaaGreatDoorU8
namespace Go.Proofs.YtfpkkobclkdniaaGreatDoor
open Go.RowKit

theorem step1_any (q name : ByteArray) (v : V) (l f : Value) (b o : Nat) (w : World) (hs : ∃ a1 n1 c1 a2 n2 c2, l = .slice a1 n1 c1 ∧ f = .slice a2 n2 c2) (ha : w.cell? ⟨b, o, none⟩ = some (.string name)) :
    Calls Tryz.prog 120 #[.agg #[.string q, .int .i64 v.kind, .int .i64 v.num, .string v.text, l, f], .pointer (some ⟨b, o, none⟩)] w fun e w' => e = .returned (.bool (isName name (q, v))) ∧ Below w.heap.size w w' := by
  obtain ⟨a1, n1, c1, a2, n2, c2, rfl, rfl⟩ := hs
  have hb := lt_of_cell ha
  unfold isName
  rw [← beq_cmpT]
  go_enter Tryz.func120, Tryz.ntmps120
  go_wp2
  go_ret
  exact ⟨rfl, (Below.refl _ _).alloc (Nat.le_refl _) _⟩
theorem entersStep1 (args : Array Value) (w : World) : (callFunc 120 args).run Tryz.prog w = .ok (.enter 120 args) w := enters_of Tryz.func120 (by kernel_rfl) rfl args w

theorem itoa_bytes (k : Int) (s : ByteArray) : ((⟨(Lib.itoa k).toArray⟩ : ByteArray).toList == s.toList) = decide (Lib.itoa k = s.data.toList) := by
  rw [ByteArray.toList_eq, ByteArray.toList_eq, Bool.eq_iff_iff, beq_iff_eq, decide_eq_true_iff]

/-- the place, or none: below how many. -/
def placeIn (part : ByteArray) (many : Nat) : Option Nat := (placeOf part).bind fun i => if i < many then some i else none
def placeV : Option Nat → Value
  | some i => .tuple #[.int .i64 (i : Int), .bool true]
  | none => .tuple #[.int .i64 0, .bool false]

theorem bytes_below {w w' : World} {T : Nat} (h : w' = w ∨ ∃ t, w' = Lib.bytesWorld w T t) : Below w.heap.size w w' := by
  rcases h with rfl | ⟨t, rfl⟩
  · exact Below.refl _ _
  · exact Lib.bytesWorld_below _ _ _

set_option maxHeartbeats 1000000 in
theorem place6_any (part : ByteArray) (many : Nat) (w : World) (hE : PEnv w) (hp : part.size ≤ 1099511627776) :
    Calls Tryz.prog 121 #[.string part, .int .i64 (many : Int)] w fun e w' => e = .returned (placeV (placeIn part many)) ∧ Below w.heap.size w w' := by
  obtain ⟨ev1, he1, he1'⟩ := hE.syn
  obtain ⟨ev2, he2, he2'⟩ := hE.range
  rcases hA : Lib.atoiAll part.data.toList with k | _ | _
  · have hcall := Tryz.strconv_Atoi_ok part (by omega) k hA w
    obtain ⟨b0, b1⟩ := Lib.atoiAll_bounds hA
    have hit : ∀ W, Below w.heap.size w W → Calls Tryz.prog 52 #[.int .i64 k] W fun e w' => e = .returned (.string ⟨(Lib.itoa k).toArray⟩) ∧ Below W.heap.size W w' := by
      intro W hW
      refine (Tryz.strconv_Itoa k b0 b1 W (hE.below hW).pow).mono ?_
      rintro e w' ⟨rfl, j, os, rfl⟩
      exact ⟨rfl, Lib.below_grow W.heap.size W (Nat.le_refl _) j os⟩
    have heq := itoa_bytes k part
    have hpl : placeIn part many = if 0 ≤ k ∧ Lib.itoa k = part.data.toList ∧ k < many then some k.toNat else none := by
      unfold placeIn placeOf
      rw [hA]
      simp only
      by_cases h : 0 ≤ k ∧ Lib.itoa k = part.data.toList
      · rw [if_pos h, Option.bind_some]
        by_cases h3 : k < many
        · rw [if_pos (by omega), if_pos ⟨h.1, h.2, h3⟩]
        · rw [if_neg (by omega), if_neg fun hh => h3 hh.2.2]
      · rw [if_neg h, Option.bind_none, if_neg fun hh => h ⟨hh.1, hh.2.1⟩]
    clear hE he1 he2 he1' he2' hA
    generalize (⟨(Lib.itoa k).toArray⟩ : ByteArray) = it at heq hit
    by_cases h1 : Lib.itoa k = part.data.toList
    · rw [decide_eq_true h1] at heq
      by_cases h2 : 0 ≤ k
      · have z2 : ¬ k < 0 := by omega
        by_cases h3 : k < many
        · rw [hpl, if_pos ⟨h2, h1, h3⟩]
          have hk : ((k.toNat : Nat) : Int) = k := by omega
          have hpv : placeV (some k.toNat) = .tuple #[.int .i64 k, .bool true] := by
            show Value.tuple #[.int .i64 ((k.toNat : Nat) : Int), .bool true] = _
            rw [hk]
          rw [hpv]
          have z3 : ¬ (many : Int) ≤ k := by omega
          clear hpl h1 hk
          go_enter Tryz.func121, Tryz.ntmps121
          go_wp2_with fail
          refine hcall.mono ?_
          rintro e w1 ⟨rfl, hw1⟩
          have hb1 := bytes_below hw1
          clear hw1 hcall
          go_wp2_with fail
          refine (hit _ hb1).mono ?_
          rintro e w2 ⟨rfl, hb2⟩
          have hB := hb1.trans (hb2.mono hb1.size)
          clear hit hb1 hb2
          go_wp2
          go_ret2
          exact ⟨rfl, hB⟩
        · rw [hpl, if_neg fun hh => h3 hh.2.2]
          have z3 : (many : Int) ≤ k := by omega
          clear hpl h1
          go_enter Tryz.func121, Tryz.ntmps121
          go_wp2_with fail
          refine hcall.mono ?_
          rintro e w1 ⟨rfl, hw1⟩
          have hb1 := bytes_below hw1
          clear hw1 hcall
          go_wp2_with fail
          refine (hit _ hb1).mono ?_
          rintro e w2 ⟨rfl, hb2⟩
          have hB := hb1.trans (hb2.mono hb1.size)
          clear hit hb1 hb2
          go_wp2
          go_ret2
          exact ⟨rfl, hB⟩
      · rw [hpl, if_neg fun hh => h2 hh.1]
        have z2 : k < 0 := by omega
        clear hpl h1
        go_enter Tryz.func121, Tryz.ntmps121
        go_wp2_with fail
        refine hcall.mono ?_
        rintro e w1 ⟨rfl, hw1⟩
        have hb1 := bytes_below hw1
        clear hw1 hcall
        go_wp2_with fail
        refine (hit _ hb1).mono ?_
        rintro e w2 ⟨rfl, hb2⟩
        have hB := hb1.trans (hb2.mono hb1.size)
        clear hit hb1 hb2
        go_wp2
        go_ret2
        exact ⟨rfl, hB⟩
    · rw [decide_eq_false h1] at heq
      rw [hpl, if_neg fun hh => h1 hh.2.1]
      clear hpl h1
      go_enter Tryz.func121, Tryz.ntmps121
      go_wp2_with fail
      refine hcall.mono ?_
      rintro e w1 ⟨rfl, hw1⟩
      have hb1 := bytes_below hw1
      clear hw1 hcall
      go_wp2_with fail
      refine (hit _ hb1).mono ?_
      rintro e w2 ⟨rfl, hb2⟩
      have hB := hb1.trans (hb2.mono hb1.size)
      clear hit hb1 hb2
      go_wp2
      go_ret2
      exact ⟨rfl, hB⟩
  · have hcall := Tryz.strconv_Atoi_syntax part (by omega) hA ev1 w he1 he1'
    have hpl : placeIn part many = none := by unfold placeIn placeOf; rw [hA]; rfl
    rw [hpl]
    clear hE hpl hA he1 he2
    go_enter Tryz.func121, Tryz.ntmps121
    go_wp2_with fail
    refine hcall.mono ?_
    rintro e w1 ⟨N, rfl, -, -, hb⟩
    clear hcall
    go_wp2
    go_ret2
    exact ⟨rfl, hb⟩
  · have hcall := Tryz.strconv_Atoi_range part (by omega) hA ev2 w he2 he2'
    have hpl : placeIn part many = none := by unfold placeIn placeOf; rw [hA]; rfl
    rw [hpl]
    clear hE hpl hA he1 he2
    go_enter Tryz.func121, Tryz.ntmps121
    go_wp2_with fail
    refine hcall.mono ?_
    rintro e w1 ⟨N, rfl, -, -, hb⟩
    clear hcall
    go_wp2
    go_ret2
    exact ⟨rfl, hb⟩

/-- what a part leads to, as step tells it. -/
def StepTo (v : V) (l f : Value) (part : ByteArray) (e : Ending) : Prop :=
  (atP v part = none ∧ e = .returned (.pointer none)) ∨
  (v.kind = 5 ∧ ∃ j q y C c, v.fields[j]? = some (q, y) ∧ whereI (isName part) v.fields = (j : Nat) ∧ atP v part = some y ∧ f = .slice (some ⟨C, 0, none⟩) v.fields.length c ∧ e = .returned (.pointer (some ⟨C, j * 6 + 1, none⟩))) ∨
  (v.kind = 4 ∧ ∃ j y C c, placeOf part = some j ∧ v.list[j]? = some y ∧ atP v part = some y ∧ l = .slice (some ⟨C, 0, none⟩) v.list.length c ∧ e = .returned (.pointer (some ⟨C, j * 5, none⟩)))
theorem at5 {v : V} (hk : v.kind = 5) (part : ByteArray) : atP v part = getF part v.fields := if_pos hk
theorem at4 {v : V} (hk : v.kind = 4) (part : ByteArray) : atP v part = (placeOf part).bind fun i => v.list[i]? := by
  unfold atP; rw [if_neg (by omega), if_pos hk]
theorem at_none {v : V} (h5 : ¬ v.kind = 5) (h4 : ¬ v.kind = 4) (part : ByteArray) : atP v part = none := by
  unfold atP; rw [if_neg h5, if_neg h4]

set_option maxHeartbeats 2000000 in
theorem step6_any (n : Nat) (v : V) (l f : Value) (b o : Nat) (part : ByteArray) (w : World) (hE : PEnv w) (hp : part.size ≤ 1099511627776) (h : At n w b o v l f) :
    Calls Tryz.prog 100 #[.pointer (some ⟨b, o, none⟩), .string part] w fun e w' => StepTo v l f part e ∧ Below w.heap.size w w' := by
  obtain ⟨c0, c1, c2, c3, c4, hL⟩ := h
  have hl0 := lt_of_cell c0
  have hL' := Rep.up hL
  obtain ⟨⟨es, e1, e2, e3⟩, ⟨fs, f1, f2, f3⟩⟩ := hL'
  obtain ⟨a1, k1, a2, k2, rfl, rfl⟩ := Rep.slices hL
  have hB : Below w.heap.size w (w.alloc (.cells #[.string part] 9)) := (Below.refl _ _).alloc (Nat.le_refl _) _
  by_cases h5 : v.kind = 5
  · have hF : Calls Tryz.prog 119 #[.slice a2 v.fields.length k2, .func (.func 120) #[] #[.pointer (some ⟨w.heap.size, 0, none⟩)]] (w.alloc (.cells #[.string part] 9)) fun e w' => e = .returned (.int .i64 (whereI (isName part) v.fields)) ∧ Below (w.alloc (.cells #[.string part] 9)).heap.size (w.alloc (.cells #[.string part] 9)) w' := by
      rw [← f1]
      have hm : ∀ b, True → b < w.heap.size → True ∧ (w.alloc (.cells #[.string part] 9)).heap[b]? = w.heap[b]? := fun b _ h => ⟨trivial, hB.block b h⟩
      exact IndexFunc_any 120 _ entersStep1 (isName part) n fs _ _ (by rw [List.length_map]; have := f2.move hm; rwa [← f1, List.length_map] at this) (fun e he => Lies.below hB (f3 e he)) fun x hx W hWW => step1_any x.name part x.v x.l x.f _ _ W (Rep.shape (f3 x hx)) (by rw [hWW.cell (by simp)]; simp)
    have hfl : fs.length = v.fields.length := by rw [← f1, List.length_map]
    have hn := f2.2.1
    rw [h5] at c0
    rcases where_name part v.fields with ⟨h1, h2⟩ | ⟨j, q, y, h1, h2, h3, _, _⟩
    · rw [h1] at hF
      have hat : atP v part = none := by rw [at5 h5, h2]
      clear hL e1 e2 e3 f1 f2 f3 h1 h2 c3 c2 c1
      go_enter Tryz.func100, Tryz.ntmps100
      go_wp2_with fail
      refine hF.mono ?_
      rintro e w1 ⟨rfl, hb1⟩
      clear hF
      go_wp2
      go_ret
      exact ⟨.inl ⟨hat, rfl⟩, hB.trans (hb1.mono hB.size)⟩
    · have hj : j < v.fields.length := (List.getElem?_eq_some_iff.1 h2).1
      obtain ⟨C, c', e0, -, -, hc1, hc2, -⟩ := f2.cells (by omega)
      simp only [Value.slice.injEq] at e0
      obtain ⟨rfl, -, rfl⟩ := e0
      have hst : StepTo v (.slice a1 v.list.length k1) (.slice (some ⟨C, 0, none⟩) v.fields.length k2) part (.returned (.pointer (some ⟨C, j * 6 + 1, none⟩))) :=
        .inr (.inl ⟨h5, j, q, y, C, k2, h2, h1, by rw [at5 h5, h3], rfl, rfl⟩)
      rw [h1] at hF
      have zj : (j : Int) < (v.fields.length : Int) := by omega
      have zj0 : (0 : Int) ≤ (j : Int) := by omega
      have zn : v.fields.length ≤ 1000000 := by omega
      clear hL e1 e2 e3 f1 f2 f3 h1 h2 h3 c3 c2 c1 hfl hn
      go_enter Tryz.func100, Tryz.ntmps100
      go_wp2_with fail
      refine hF.mono ?_
      rintro e w1 ⟨rfl, hb1⟩
      have hB1 := hB.trans (hb1.mono hB.size)
      have c4' := (hB1.cell (p := ⟨b, o + 4, none⟩) hl0).trans c4
      clear hF
      go_wp2
      go_ret
      exact ⟨hst, hB1⟩
  by_cases h4 : v.kind = 4
  · have hel : es.length = v.list.length := by rw [← e1, List.length_map]
    have hn := e2.2.1
    rw [hel] at hn
    rw [h4] at c0
    have hB' := fun d os => hB.trans ((below_regrown (w.alloc (.cells #[.string part] 9)) d os).mono hB.size)
    have hcall := fun d os => Calls.regrown_of (place6_any part v.list.length (Go.Sort.grow (redrawn (w.alloc (.cells #[.string part] 9)) d) os) (hE.below (hB' d os)) hp)
    have p00 : (w.alloc (.cells #[.string part] 9)).cell? ⟨w.heap.size, 0, none⟩ = some (.string part) := by simp
    have p0 := below_regrown_cell p00
    have c3' : (w.alloc (.cells #[.string part] 9)).cell? ⟨b, o + 3, none⟩ = some (.slice a1 v.list.length k1) := (hB.cell (p := ⟨b, o + 3, none⟩) hl0).trans c3
    have C3 := below_regrown_cell c3'
    rcases hpi : placeIn part v.list.length with _ | j
    · have hat : atP v part = none := by
        rw [at4 h4]
        unfold placeIn at hpi
        rcases hq : placeOf part with _ | i
        · rfl
        · rw [hq, Option.bind_some] at hpi
          rw [Option.bind_some]
          by_cases hi : i < v.list.length
          · rw [if_pos hi] at hpi; cases hpi
          · exact List.getElem?_eq_none (by omega)
      simp only [hpi, placeV] at hcall
      clear hL e1 e2 e3 f1 f2 f3 c4 c2 c1 hE
      go_enter Tryz.func100, Tryz.ntmps100
      go_wp2_with fail
      refine wp_region_quiet_below mixed (by kernel_rfl) ?_
      iterate 6 go_big_quiet_step (fail)
      go_big_quiet_step (exact hcall _ _)
      iterate 5 go_big_quiet_step (fail)
      refine wpQuiet_nil ?_
      rintro w5 ⟨⟨dq, osq⟩, hw5⟩
      have hb5 : Below w.heap.size w w5 := by rw [hw5]; exact hB' dq osq
      clear hw5 hcall
      go_wp2_with fail
      go_ret
      exact ⟨.inl ⟨hat, rfl⟩, hb5⟩
    · have hpj : placeOf part = some j ∧ j < v.list.length := by
        unfold placeIn at hpi
        rcases hq : placeOf part with _ | i
        · rw [hq] at hpi; cases hpi
        · rw [hq, Option.bind_some] at hpi
          by_cases hi : i < v.list.length
          · rw [if_pos hi] at hpi; cases hpi; exact ⟨rfl, hi⟩
          · rw [if_neg hi] at hpi; cases hpi
      obtain ⟨hp1, hp2⟩ := hpj
      obtain ⟨C, c', e0, -, -, hc1, hc2, -⟩ := e2.cells (by omega)
      simp only [Value.slice.injEq] at e0
      obtain ⟨rfl, -, rfl⟩ := e0
      obtain ⟨y, hy⟩ : ∃ y, v.list[j]? = some y := ⟨_, List.getElem?_eq_getElem hp2⟩
      have hst : StepTo v (.slice (some ⟨C, 0, none⟩) v.list.length k1) (.slice a2 v.fields.length k2) part (.returned (.pointer (some ⟨C, j * 5, none⟩))) :=
        .inr (.inr ⟨h4, j, y, C, k1, hp1, hy, by rw [at4 h4, hp1, Option.bind_some, hy], rfl, rfl⟩)
      simp only [hpi, placeV] at hcall
      have zj : (j : Int) < (v.list.length : Int) := by omega
      have zj0 : (0 : Int) ≤ (j : Int) := by omega
      clear hL e1 e2 e3 f1 f2 f3 c4 c2 c1 hE hy hp1 hp2 hpi
      go_enter Tryz.func100, Tryz.ntmps100
      go_wp2_with fail
      refine wp_region_quiet_below mixed (by kernel_rfl) ?_
      iterate 6 go_big_quiet_step (fail)
      go_big_quiet_step (exact hcall _ _)
      iterate 5 go_big_quiet_step (fail)
      refine wpQuiet_nil ?_
      rintro w5 ⟨⟨dq, osq⟩, hw5⟩
      have hb5 : Below w.heap.size w w5 := by rw [hw5]; exact hB' dq osq
      have d3 := (hb5.cell (p := ⟨b, o + 3, none⟩) hl0).trans c3
      clear hw5 hcall
      go_wp2_with fail
      go_ret
      exact ⟨hst, hb5⟩
  · have e5 : (v.kind == 5) = false := by simpa using h5
    have e4 : (v.kind == 4) = false := by simpa using h4
    have hat := at_none h5 h4 part
    clear hL e1 e2 e3 f1 f2 f3 c4 c2 c1 c3 hE
    go_enter Tryz.func100, Tryz.ntmps100
    go_wp2_with fail
    go_ret
    exact ⟨.inl ⟨hat, rfl⟩, hB⟩
end Go.Proofs.YtfpkkobclkdniaaGreatDoor

namespace Go.Proofs.YtfpkkobclkdniaaGreatDoor
open Go.RowKit

/-- a slice of texts. -/
def StrsAt (W : World) (s : Value) (ps : List ByteArray) : Prop :=
  ∃ (a : Option Addr) (cap : Nat), s = .slice a ps.length cap ∧ ps.length ≤ cap ∧ cap ≤ 9223372036854775807 ∧ (ps ≠ [] → ∃ b o, a = some ⟨b, o, none⟩ ∧ ∀ (j : Nat) (u : ByteArray), ps[j]? = some u → W.cell? ⟨b, o + j, none⟩ = some (.string u))
theorem StrsAt.below {W W' : World} {s : Value} {ps : List ByteArray} (h : StrsAt W s ps) (hb : Below W.heap.size W W') : StrsAt W' s ps := by
  obtain ⟨a, cap, h1, h2, h3, h4⟩ := h
  refine ⟨a, cap, h1, h2, h3, fun hne => ?_⟩
  obtain ⟨b, o, h5, h6⟩ := h4 hne
  exact ⟨b, o, h5, fun j u hj => by rw [hb.cell (lt_of_cell (h6 j u hj))]; exact h6 j u hj⟩

theorem At.below {m : Nat} {W W' : World} {B o : Nat} {v : V} {l f : Value} (h : At m W B o v l f) (hb : Below W.heap.size W W') : At m W' B o v l f := by
  obtain ⟨c0, c1, c2, c3, c4, hL⟩ := h
  have hl := lt_of_cell c0
  exact ⟨(hb.cell (p := ⟨B, o, none⟩) hl).trans c0, (hb.cell (p := ⟨B, o + 1, none⟩) hl).trans c1, (hb.cell (p := ⟨B, o + 2, none⟩) hl).trans c2, (hb.cell (p := ⟨B, o + 3, none⟩) hl).trans c3, (hb.cell (p := ⟨B, o + 4, none⟩) hl).trans c4, hL.below hb⟩

/-- what is kept while one goes along a way: of the parts that are left, and of the place where one is. -/
structure Going (Inv : List ByteArray → World → Nat → Nat → V → Value → Value → Prop) : Prop where
  below : ∀ {ps W W' B o v l f}, Inv ps W B o v l f → Below W.heap.size W W' → Inv ps W' B o v l f
  lies : ∀ {ps W B o v l f}, Inv ps W B o v l f → ∃ m, At m W B o v l f
  field : ∀ {p ps W B o v l f} {j C c : Nat} {q : ByteArray} {y : V}, Inv (p :: ps) W B o v l f → v.kind = 5 → v.fields[j]? = some (q, y) → whereI (isName p) v.fields = (j : Nat) → atP v p = some y → f = .slice (some ⟨C, 0, none⟩) v.fields.length c → ∃ yl yf, Inv ps W C (j * 6 + 1) y yl yf
  list : ∀ {p ps W B o v l f} {j C c : Nat} {y : V}, Inv (p :: ps) W B o v l f → v.kind = 4 → placeOf p = some j → v.list[j]? = some y → atP v p = some y → l = .slice (some ⟨C, 0, none⟩) v.list.length c → ∃ yl yf, Inv ps W C (j * 5) y yl yf

theorem find_cons_none {v : V} {p : ByteArray} {ps : List ByteArray} (h : atP v p = none) : findP v (p :: ps) = none := by
  show (atP v p).bind _ = none
  rw [h]; rfl
theorem find_cons_some {v y : V} {p : ByteArray} {ps : List ByteArray} (h : atP v p = some y) : findP v (p :: ps) = findP y ps := by
  show (atP v p).bind _ = _
  rw [h]; rfl

/-- what find tells. -/
def FoundAt (Inv : World → Nat → Nat → V → Value → Value → Prop) (w : World) : Option V → Ending → Prop
  | none, e => e = .returned (.pointer none)
  | some u, e => ∃ b o ul uf, e = .returned (.pointer (some ⟨b, o, none⟩)) ∧ Inv w b o u ul uf

set_option maxHeartbeats 2000000 in
theorem find6_any {Inv : List ByteArray → World → Nat → Nat → V → Value → Value → Prop} (G : Going Inv) (ps : List ByteArray) (s : Value) (b o : Nat) (v : V) (l f : Value) (w : World) (hE : PEnv w) (hp : ∀ p ∈ ps, p.size ≤ 1099511627776) (hs : StrsAt w s ps) (h : Inv ps w b o v l f) :
    Calls Tryz.prog 81 #[.pointer (some ⟨b, o, none⟩), s] w fun e w' => Below w.heap.size w w' ∧ FoundAt (Inv []) w' (findP v ps) e := by
  obtain ⟨a, cap, rfl, hc1, hc2, hcells⟩ := hs
  go_enter Tryz.func81, Tryz.ntmps81
  go_wp2
  go_loopg [0, 6, 9] ps.length (fun gg vp _ i wr => ∃ (k B O : Nat) (u : V) (ul uf : Value), k ≤ ps.length ∧ ps.length - k ≤ gg ∧ i = .int .i64 k ∧ vp = .pointer (some ⟨B, O, none⟩) ∧ Aside (Below w.heap.size w wr ∧ Inv (ps.drop k) wr B O u ul uf ∧ findP v ps = findP u (ps.drop k)))
  case atStart => exact ⟨0, b, o, v, l, f, Nat.zero_le _, by omega, rfl, rfl, Below.refl _ _, h, rfl⟩
  case round =>
    obtain ⟨k, B, O, u, ul, uf, hk, hgg, rfl, rfl, R⟩ := hrel
    by_cases hlt : k < ps.length
    · obtain ⟨hB, hI, hF⟩ := R.out
      obtain ⟨p, hpk⟩ : ∃ p, ps[k]? = some p := ⟨_, List.getElem?_eq_getElem hlt⟩
      have hdrop : ps.drop k = p :: ps.drop (k + 1) := by
        rw [List.drop_eq_getElem_cons hlt, ← (List.getElem?_eq_some_iff.1 hpk).2]
      obtain ⟨ab, ao, rfl, hcell⟩ := hcells (fun e => by rw [e] at hlt; simp at hlt)
      have c0 := hcell k p hpk
      have c0' : wr.cell? ⟨ab, ao + k, none⟩ = some (.string p) := (hB.cell (lt_of_cell c0)).trans c0
      have zk : (k : Int) < (ps.length : Int) := by omega
      rw [hdrop] at hI hF
      obtain ⟨m, hat⟩ := G.lies hI
      have hcall := step6_any m u ul uf B O p wr (hE.below hB) (hp p (List.mem_of_getElem? hpk)) hat
      clear hcell hat hcells c0 h
      go_wp2_with fail
      refine hcall.mono ?_
      rintro e w1 ⟨hst, hb1⟩
      have hI1 := G.below hI hb1
      have hB1 := hB.trans (hb1.mono hB.size)
      rcases hst with ⟨hn, rfl⟩ | ⟨h5, j, q, y, C, c, hj, hw, ha, hf, rfl⟩ | ⟨h4, j, y, C, c, hpl, hj, ha, hl, rfl⟩
      · have hres : findP v ps = none := by rw [hF, find_cons_none hn]
        clear hcall hI hI1 hF
        go_wp2
        go_ret
        refine ⟨hB1, ?_⟩
        rw [hres]
        rfl
      · obtain ⟨yl, yf, hI2⟩ := G.field hI1 h5 hj hw ha hf
        have hF2 := hF.trans (find_cons_some ha)
        have S := (show Aside _ from And.intro hB1 (And.intro hI2 hF2))
        clear hcall hI hI1 hI2 hF hF2 hB1
        go_wp2
        go_roundg (ps.length - (k + 1))
        case measure => omega
        case rel => exact ⟨k + 1, C, j * 6 + 1, y, yl, yf, by omega, by omega, by go_num, rfl, S⟩
      · obtain ⟨yl, yf, hI2⟩ := G.list hI1 h4 hpl hj ha hl
        have hF2 := hF.trans (find_cons_some ha)
        have S := (show Aside _ from And.intro hB1 (And.intro hI2 hF2))
        clear hcall hI hI1 hI2 hF hF2 hB1
        go_wp2
        go_roundg (ps.length - (k + 1))
        case measure => omega
        case rel => exact ⟨k + 1, C, j * 5, y, yl, yf, by omega, by omega, by go_num, rfl, S⟩
    · have zk : ¬ (k : Int) < (ps.length : Int) := by omega
      clear hcells h
      go_wp2
      go_ret
      obtain ⟨hB, hI, hF⟩ := R.out
      have hd : ps.drop k = [] := List.drop_of_length_le (by omega)
      rw [hd] at hI hF
      refine ⟨hB, ?_⟩
      rw [hF]
      exact ⟨B, O, ul, uf, rfl, hI⟩

/-- one who only looks. -/
theorem going_look : Going fun _ W B o v l f => ∃ m, At m W B o v l f where
  below := fun ⟨m, h⟩ hb => ⟨m, h.below hb⟩
  lies := fun h => h
  field := fun {p ps W B o v l f j C c q y} ⟨m, h⟩ hk hj _ _ hf => by
    subst hf
    obtain ⟨_, _, _, _, _, hL⟩ := h
    obtain ⟨-, ⟨fs, f1, f2, f3⟩⟩ := Rep.up hL
    obtain ⟨⟨en, ev, el, ef⟩, he⟩ : ∃ e, fs[j]? = some e := by
      rw [← f1, List.getElem?_map] at hj
      obtain ⟨e, he, _⟩ := Option.map_eq_some_iff.1 hj
      exact ⟨e, he⟩
    rw [← f1, List.getElem?_map, he] at hj
    simp only [Option.map_some, Fl.pair, Option.some.injEq, Prod.mk.injEq] at hj
    obtain ⟨rfl, rfl⟩ := hj
    have hfl : fs.length = v.fields.length := by rw [← f1, List.length_map]
    rw [hfl] at f2
    obtain ⟨a0, a1, a2, a3, a4, a5⟩ := f2.fl he
    exact ⟨el, ef, m, a1, a2, a3, a4, a5, f3 _ (List.mem_of_getElem? he)⟩
  list := fun {p ps W B o v l f j C c y} ⟨m, h⟩ hk _ hj _ hl => by
    subst hl
    obtain ⟨_, _, _, _, _, hL⟩ := h
    obtain ⟨⟨es, e1, e2, e3⟩, -⟩ := Rep.up hL
    obtain ⟨⟨ev, el, ef⟩, he⟩ : ∃ e, es[j]? = some e := by
      rw [← e1, List.getElem?_map] at hj
      obtain ⟨e, he, _⟩ := Option.map_eq_some_iff.1 hj
      exact ⟨e, he⟩
    rw [← e1, List.getElem?_map, he] at hj
    simp only [Option.map_some, Option.some.injEq] at hj
    subst hj
    have hel : es.length = v.list.length := by rw [← e1, List.length_map]
    rw [hel] at e2
    obtain ⟨a1, a2, a3, a4, a5⟩ := e2.el he
    exact ⟨el, ef, m, a1, a2, a3, a4, a5, e3 _ (List.mem_of_getElem? he)⟩
end Go.Proofs.YtfpkkobclkdniaaGreatDoor

namespace Go.Proofs.YtfpkkobclkdniaaGreatDoor
open Go.RowKit

/-- what Parse tells. -/
def ParseAns (w' : World) : Option (List ByteArray) → Ending → Prop
  | none, e => ∃ u z, e = .returned (.tuple #[.slice none 0 0, .iface u z]) ∧ Flt 6 w' (.iface u z)
  | some ps, e => ∃ v, e = .returned (.tuple #[v, .nilIface]) ∧ StrsAt w' v ps

theorem parse_bad {s : ByteArray} (h : ¬ (Lib.validD s.data.toList = true ∧ (dots s).length ≤ 8 ∧ ∀ p ∈ dots s, goodPart p)) : parsePP s = none := if_neg h
theorem parse_good {s : ByteArray} (h : Lib.validD s.data.toList = true ∧ (dots s).length ≤ 8 ∧ ∀ p ∈ dots s, goodPart p) : parsePP s = some (dots s) := if_pos h

theorem new_flt {w : World} {c : Int} {p : ByteArray} : Flt c (w.alloc (.cells #[.string p, .iface 32 (.int .i64 c)] 106)) (.iface 104 (.pointer (some ⟨w.heap.size, 0, none⟩))) := by
  refine ⟨[p], _, _, rfl, ?_, rfl⟩
  show (Array.push _ _)[_]? = _
  rw [Array.getElem?_push, if_pos rfl]
theorem none_size {u : ByteArray} (h : u.size = 0) : u.toList = [] ∧ u.toList.isEmpty = true := by
  rw [ByteArray.toList_eq]
  have : u.data.toList = [] := List.length_eq_zero_iff.1 h
  rw [this]; exact ⟨rfl, rfl⟩
theorem some_size {u : ByteArray} (h : ¬ u.size = 0) : ¬ u.toList = [] ∧ u.toList.isEmpty = false := by
  rw [ByteArray.toList_eq]
  have : ¬ u.data.toList = [] := fun e => h (by have := congrArg List.length e; exact this)
  exact ⟨this, by rw [← Bool.not_eq_true, List.isEmpty_iff]; exact this⟩

set_option maxRecDepth 100000 in
set_option maxHeartbeats 2000000 in
theorem Parse6_any (s : ByteArray) (w : World) (hE : PEnv w) (hs : s.size ≤ 2147483648) :
    Calls Tryz.prog 10 #[.string s] w fun e w' => Below w.heap.size w w' ∧ ParseAns w' (parsePP s) e := by
  have hval := textValid_any s w (by omega) hE.u8
  by_cases hv : Lib.validD s.data.toList = true
  · rw [hv] at hval
    go_enter Tryz.func10, Tryz.ntmps10
    go_wp2_with fail
    refine hval.mono ?_
    rintro e w1 ⟨rfl, hb1⟩
    obtain ⟨m, hm⟩ := (hE.below hb1).maxLen
    have hsp := Tryz.strings_SplitN s ⟨#[46]⟩ 9 m w1 (by omega) hm (by decide) (by omega) (by omega)
    obtain ⟨n1, n2, n3⟩ := split_nine s
    have nN : (Lib.splitB ⟨#[46]⟩ 0 (min 9 (s.size + 1) - 1) s).length ≤ min 9 (s.size + 1) := by
      have := Lib.splitB_length_le ⟨#[46]⟩ 0 (min 9 (s.size + 1) - 1) s
      omega
    obtain ⟨N, hN⟩ : ∃ N, min 9 (s.size + 1) = N := ⟨_, rfl⟩
    have hN9 : N ≤ 9 := by omega
    rw [hN] at hsp n1 n2 n3 nN
    generalize Lib.splitB ⟨#[46]⟩ 0 (N - 1) s = xs at *
    have hE0 := (show Hid _ from hE)
    clear hval hN hE
    go_wp2_with fail
    refine hsp.mono ?_
    rintro e w2 ⟨rfl, rfl⟩
    have hb2 : Below w.heap.size w (w1.alloc (.cells (Lib.cellsOf xs N) 9)) := hb1.alloc hb1.size _
    have hcell : ∀ (j : Nat) (u : ByteArray), xs[j]? = some u → (w1.alloc (.cells (Lib.cellsOf xs N) 9)).cell? ⟨w1.heap.size, j, none⟩ = some (.string u) := by
      intro j u hj
      have hg := heap_alloc_new w1 (.cells (Lib.cellsOf xs N) 9)
      have hjl : j < xs.length := (List.getElem?_eq_some_iff.1 hj).1
      have : (Lib.cellsOf xs N)[j]? = some (.string u) := by
        simp only [Lib.cellsOf, List.getElem?_toArray]
        rw [List.getElem?_append_left (by simpa using hjl), List.getElem?_map, hj]; rfl
      exact cell_of_heap hg this
    generalize hW2 : w1.alloc (.cells (Lib.cellsOf xs N) 9) = w2 at *
    have hS2 : StrsAt w2 (.slice (some ⟨w1.heap.size, 0, none⟩) xs.length N) xs := ⟨_, N, rfl, nN, by omega, fun _ => ⟨_, 0, rfl, fun j u hj => by rw [Nat.zero_add]; exact hcell j u hj⟩⟩
    clear hsp
    go_wp2
    go_loopg [5, 6, 15] xs.length (fun gg _ _ i wr => ∃ k : Nat, k ≤ xs.length ∧ k ≤ 8 ∧ xs.length - k ≤ gg ∧ i = .int .i64 k ∧ Aside (wr = w2 ∧ ∀ j u, j < k → xs[j]? = some u → goodPart u))
    case atStart => exact ⟨0, Nat.zero_le _, Nat.zero_le _, by omega, rfl, rfl, fun j _ hj => absurd hj (Nat.not_lt_zero _)⟩
    case round =>
      obtain ⟨k, hk, hk8, hgg, rfl, R⟩ := hrel
      obtain ⟨rfl, hgood⟩ := R.out
      by_cases hlt : k < xs.length
      · obtain ⟨u, hu⟩ : ∃ u, xs[k]? = some u := ⟨_, List.getElem?_eq_getElem hlt⟩
        have c0 := hcell k u hu
        have zk : (k : Int) < (xs.length : Int) := by omega
        have hwr := wrong_any k (by omega) wr (hE0.out.below hb2)
        by_cases h8 : k = 8
        · subst h8
          have hwr8 : Calls Tryz.prog 33 #[.int .i64 8] wr fun e w' => ∃ u z, e = .returned (.iface u z) ∧ Flt 6 w' (.iface u z) ∧ Below wr.heap.size wr w' := hwr
          have hno : parsePP s = none := parse_bad fun hh => by
            have := n2 hh.2.1
            rw [this] at hlt; omega
          clear hcell hgood n1 n2 n3 hwr
          go_wp2_with fail
          refine hwr8.mono ?_
          rintro e w3 ⟨ue, ze, rfl, hf, hb3⟩
          go_wp2
          go_ret2
          rw [hno]
          exact ⟨hb2.trans (hb3.mono hb2.size), ue, ze, rfl, hf⟩
        · have z8 : ((k : Int) == 8) = false := by simp; omega
          by_cases hg : goodPart u
          · obtain ⟨q1, q2⟩ := some_size (u := u) (by have := hg.1; omega)
            have z32 : ¬ (32 : Int) < (u.size : Int) := by have := hg.2; omega
            have hg2 : ∀ j u, j < k + 1 → xs[j]? = some u → goodPart u := by
              intro j u' hj hu'
              by_cases e : j = k
              · subst e
                rw [hu] at hu'
                cases hu'
                exact hg
              · exact hgood j u' (by omega) hu'
            have Q := (show Aside _ from And.intro (rfl : wr = wr) hg2)
            clear hcell hgood n1 n2 n3 hwr hg2
            go_wp2
            go_roundg (xs.length - (k + 1))
            case measure => omega
            case rel => exact ⟨k + 1, by omega, by omega, by omega, by go_num, (show Aside _ from And.intro rfl Q.out.2)⟩
          · have hno : parsePP s = none := parse_bad fun hh => by
              have e := n2 hh.2.1
              rw [e] at hu
              exact hg (hh.2.2 u (List.mem_of_getElem? hu))
            by_cases q : u.size = 0
            · obtain ⟨q1, q2⟩ := none_size q
              clear hcell hgood n1 n2 n3
              go_wp2_with fail
              refine hwr.mono ?_
              rintro e w3 ⟨ue, ze, rfl, hf, hb3⟩
              go_wp2
              go_ret2
              rw [hno]
              exact ⟨hb2.trans (hb3.mono hb2.size), ue, ze, rfl, hf⟩
            · obtain ⟨q1, q2⟩ := some_size q
              have z32 : (32 : Int) < (u.size : Int) := by
                have : ¬ (1 ≤ u.size ∧ u.size ≤ 32) := hg
                omega
              clear hcell hgood n1 n2 n3
              go_wp2_with fail
              refine hwr.mono ?_
              rintro e w3 ⟨ue, ze, rfl, hf, hb3⟩
              go_wp2
              go_ret2
              rw [hno]
              exact ⟨hb2.trans (hb3.mono hb2.size), ue, ze, rfl, hf⟩
      · have zk : ¬ (k : Int) < (xs.length : Int) := by omega
        have hyes : parsePP s = some xs := by
          have hD : (dots s).length ≤ 8 := by
            rcases Nat.lt_or_ge 8 (dots s).length with h | h
            · have := n3 h; omega
            · exact h
          rw [n2 hD]
          refine parse_good ⟨hv, hD, fun p hp => ?_⟩
          rw [← n2 hD] at hp
          obtain ⟨j, hj⟩ := List.mem_iff_getElem?.1 hp
          exact hgood j p (by have := (List.getElem?_eq_some_iff.1 hj).1; omega) hj
        clear hcell hgood n1 n2 n3
        go_wp2
        go_ret2
        try rw [hyes]
        exact ⟨hb2, _, rfl, hS2⟩
  · have hv' : Lib.validD s.data.toList = false := by simpa using hv
    have hno : parsePP s = none := parse_bad fun hh => hv hh.1
    rw [hv'] at hval
    go_enter Tryz.func10, Tryz.ntmps10
    go_wp2_with fail
    refine hval.mono ?_
    rintro e w1 ⟨rfl, hb1⟩
    clear hval
    go_wp2_with fail
    refine (New_some 6 rfl _ _).mono ?_
    rintro e w2 ⟨rfl, rfl⟩
    go_wp2
    go_ret2
    rw [hno]
    exact ⟨hb1.alloc hb1.size _, _, _, rfl, new_flt⟩
end Go.Proofs.YtfpkkobclkdniaaGreatDoor

namespace Go.Proofs.YtfpkkobclkdniaaGreatDoor
open Go.RowKit

theorem row5_at {m : Nat} {W : World} {B t : Nat} {v : V} {l f : Value} (h : W.heap[B]? = some (.cells #[.int .i64 v.kind, .int .i64 v.num, .string v.text, l, f] t (0, 0))) (hL : Lies m W v l f) : At m W B 0 v l f := by
  obtain ⟨a0, a1, a2, a3, a4, _⟩ := row5 h
  exact ⟨a0, a1, a2, a3, a4, hL⟩

set_option maxHeartbeats 1000000 in
theorem Find6_any (n : Nat) (ps : List ByteArray) (s : Value) (v : V) (l f : Value) (w : World) (hE : PEnv w) (hp : ∀ p ∈ ps, p.size ≤ 1099511627776) (hs : StrsAt w s ps) (h : Lies n w v l f) :
    Calls Tryz.prog 58 #[.agg #[.int .i64 v.kind, .int .i64 v.num, .string v.text, l, f], s] w fun r w' => ∃ l' f' m, r = .returned (.tuple #[.agg #[.int .i64 ((findP v ps).getD zeroV).kind, .int .i64 ((findP v ps).getD zeroV).num, .string ((findP v ps).getD zeroV).text, l', f'], .bool (findP v ps).isSome]) ∧ Lies m w' ((findP v ps).getD zeroV) l' f' ∧ Below w.heap.size w w' := by
  have hB : ∀ (o1 o2 : Obj), Below w.heap.size w ((w.alloc o1).alloc o2) := fun o1 o2 => ((Below.refl _ _).alloc (Nat.le_refl _) _).alloc (by simp) _
  obtain ⟨O1, hO1⟩ : ∃ O, O = Obj.cells #[.int .i64 v.kind, .int .i64 v.num, .string v.text, l, f] 40 := ⟨_, rfl⟩
  obtain ⟨O2, hO2⟩ : ∃ O, O = Obj.cells #[.int .i64 0, .int .i64 0, .string ⟨#[]⟩, .slice none 0 0, .slice none 0 0] 40 := ⟨_, rfl⟩
  have hBw := hB O1 O2
  have hat : At n ((w.alloc O1).alloc O2) w.heap.size 0 v l f := by
    refine row5_at (t := 40) ?_ (h.below hBw)
    rw [← hO1]; exact heap_alloc2_old
  have hcall := find6_any going_look ps s w.heap.size 0 v l f ((w.alloc O1).alloc O2) (hE.below hBw) hp (hs.below hBw) ⟨n, hat⟩
  have q0 : ((w.alloc O1).alloc O2).heap[w.heap.size + 1]? = some O2 := heap_alloc2_new
  obtain ⟨a1, c1, a3, c3, rfl, rfl⟩ := h.slices
  obtain ⟨a, cap, rfl, -⟩ := hs
  have S := (show Hid _ from And.intro hO1 (And.intro hO2 (And.intro hBw q0)))
  rw [hO1, hO2] at hcall
  clear hat hE hp h hO1 hO2 hBw q0
  rcases hF : findP v ps with _ | u
  · rw [hF] at hcall
    go_enter Tryz.func58, Tryz.ntmps58
    go_wp2_with fail
    refine hcall.mono ?_
    rintro e w1 ⟨hb1, he⟩
    obtain rfl := he
    obtain ⟨hO1, hO2, hBw, q0⟩ := S.out
    rw [← hO1, ← hO2] at hb1
    have q1 := (hb1.block _ (lt_of_heap q0)).trans q0
    rw [hO2] at q1
    obtain ⟨o0, o1, o2, o3, o4, of⟩ := row5 q1
    have hB1 := hBw.trans (hb1.mono hBw.size)
    clear q1 hb1 hcall hBw q0 hO1 hO2
    go_wp2
    refine bodyPost_ret (v := .tuple #[.agg #[.int .i64 0, .int .i64 0, .string ⟨#[]⟩, .slice none 0 0, .slice none 0 0], .bool false]) (by simp [results, Tryz.results58, go_sem, o0, o1, o2, o3, o4]) rfl ⟨_, _, 0, rfl, ⟨rfl, rfl, rfl, rfl⟩, ?_⟩
    exact (((((hB1.setCell (Nat.le_succ _) _).setCell (Nat.le_succ _) _).setCell (Nat.le_succ _) _).setCell (Nat.le_succ _) _).setCell (Nat.le_succ _) _)
  · rw [hF] at hcall
    show Calls _ _ _ _ fun r w' => ∃ l' f' m, r = .returned (.tuple #[.agg #[.int .i64 u.kind, .int .i64 u.num, .string u.text, l', f'], .bool true]) ∧ Lies m w' u l' f' ∧ _
    go_enter Tryz.func58, Tryz.ntmps58
    go_wp2_with fail
    refine hcall.mono ?_
    rintro e w1 ⟨hb1, B, O, ul, uf, rfl, m, hat⟩
    obtain ⟨hO1, hO2, hBw, q0⟩ := S.out
    rw [← hO1, ← hO2] at hb1
    have q1 := (hb1.block _ (lt_of_heap q0)).trans q0
    rw [hO2] at q1
    have hB1 := hBw.trans (hb1.mono hBw.size)
    obtain ⟨c0, c1, c2, c3, c4, hL⟩ := hat
    have htw := twinValue_any m u ul uf w1 hL
    obtain ⟨b1, d1, b3, d3, rfl, rfl⟩ := Rep.slices hL
    have T := (show Hid _ from And.intro hB1 q1)
    clear q1 hb1 hcall hBw q0 hO1 hO2 hB1
    go_wp2_with fail
    refine htw.mono ?_
    rintro e w2 ⟨l', f', rfl, hcp, hb2⟩
    have hrep := hcp.rep
    obtain ⟨al', cl', af', cf', rfl, rfl⟩ := hrep.slices
    obtain ⟨hB1, q1⟩ := T.out
    have q2 := row_below hb2 q1
    obtain ⟨o0, o1, o2, o3, o4, of⟩ := row5 q2
    have U := (show Hid _ from And.intro hrep hb2)
    clear hcp hrep hb2 q2 q1 hB1 hL htw c0 c1 c2 c3 c4
    go_wp2
    refine bodyPost_ret (v := .tuple #[.agg #[.int .i64 u.kind, .int .i64 u.num, .string u.text, .slice al' u.list.length cl', .slice af' u.fields.length cf'], .bool true]) (by simp [results, Tryz.results58, go_sem, o0, o1, o2, o3, o4]) rfl ⟨_, _, m + 1, rfl, ?_, ?_⟩
    · obtain ⟨hrep, hb2⟩ := U.out
      refine hrep.move fun b hb hl => ?_
      have hl1 := lt_of_heap T.out.2
      have h2 : b ≠ w.heap.size + 1 := by omega
      exact ⟨trivial, by rw [heap_setCell_ne _ _ _ h2, heap_setCell_ne _ _ _ h2, heap_setCell_ne _ _ _ h2, heap_setCell_ne _ _ _ h2, heap_setCell_ne _ _ _ h2]⟩
    · have hB2 := T.out.1.trans (U.out.2.mono T.out.1.size)
      exact (((((hB2.setCell (Nat.le_succ _) _).setCell (Nat.le_succ _) _).setCell (Nat.le_succ _) _).setCell (Nat.le_succ _) _).setCell (Nat.le_succ _) _)
end Go.Proofs.YtfpkkobclkdniaaGreatDoor
