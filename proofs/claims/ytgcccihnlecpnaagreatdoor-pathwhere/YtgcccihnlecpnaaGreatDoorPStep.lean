/-
  package path's place and step by their contracts. Conditions: as stated (parts of at most 2^40 bytes).
-/
import Derived.Test.YtgcccihnlecpnaaGreatDoorPOwn
import Derived.Test.YtgcccihnlecpnaaGreatDoorPPure
import Derived.Test.YtgcccihnlecpnaaGreatDoorPEnv
import Derived.Test.YtgcccihnlecpnaaGreatDoorVQ
namespace Go.Proofs.YtgcccihnlecpnaaGreatDoor
open Go.RowKit

theorem step1_any (q name : ByteArray) (v : V) (l f : Value) (b o : Nat) (w : World) (hs : ∃ a1 n1 c1 a2 n2 c2, l = .slice a1 n1 c1 ∧ f = .slice a2 n2 c2) (ha : w.cell? ⟨b, o, none⟩ = some (.string name)) :
    Calls Tryz.prog 51 #[.agg #[.string q, .int .i64 v.kind, .int .i64 v.num, .string v.text, l, f], .pointer (some ⟨b, o, none⟩)] w fun e w' => e = .returned (.bool (isName name (q, v))) ∧ Below w.heap.size w w' := by
  obtain ⟨a1, n1, c1, a2, n2, c2, rfl, rfl⟩ := hs
  have hb := lt_of_cell ha
  unfold isName
  rw [← beq_cmpT]
  go_enter Tryz.func51, Tryz.ntmps51
  go_wp2
  go_ret
  exact ⟨rfl, (Below.refl _ _).alloc (Nat.le_refl _) _⟩
theorem entersStep1 (args : Array Value) (w : World) : (callFunc 51 args).run Tryz.prog w = .ok (.enter 51 args) w := enters_of Tryz.func51 (by kernel_rfl) rfl args w

theorem itoa_bytes (k : Int) (s : ByteArray) : ((⟨(Lib.itoa k).toArray⟩ : ByteArray).toList == s.toList) = decide (Lib.itoa k = s.data.toList) := by
  rw [ByteArray.toList_eq, ByteArray.toList_eq, Bool.eq_iff_iff, beq_iff_eq, decide_eq_true_iff]

/-- the place, or none: below how many. -/
def placeIn (part : ByteArray) (many : Nat) : Option Nat := (placeOf part).bind fun i => if i < many then some i else none
def placeV : Option Nat → Value
  | some i => .tuple #[.int .i64 (i : Int), .bool true]
  | none => .tuple #[.int .i64 0, .bool false]

theorem bytes_below {w w' : World} {T : Nat} (h : w' = w ∨ ∃ t, w' = Lib.bytesWorld w T t) : Below w.heap.size w w' := by
  rcases h with rfl | ⟨t, rfl⟩
  · exact Below.refl _ _
  · exact Lib.bytesWorld_below _ _ _

set_option maxHeartbeats 1000000 in
theorem place6_any (part : ByteArray) (many : Nat) (w : World) (hE : PEnv w) (hp : part.size ≤ 1099511627776) :
    Calls Tryz.prog 52 #[.string part, .int .i64 (many : Int)] w fun e w' => e = .returned (placeV (placeIn part many)) ∧ Below w.heap.size w w' := by
  obtain ⟨ev1, he1, he1'⟩ := hE.syn
  obtain ⟨ev2, he2, he2'⟩ := hE.range
  rcases hA : Lib.atoiAll part.data.toList with k | _ | _
  · have hcall := Tryz.strconv_Atoi_ok part (by omega) k hA w
    obtain ⟨b0, b1⟩ := Lib.atoiAll_bounds hA
    have hit : ∀ W, Below w.heap.size w W → Calls Tryz.prog 40 #[.int .i64 k] W fun e w' => e = .returned (.string ⟨(Lib.itoa k).toArray⟩) ∧ Below W.heap.size W w' := by
      intro W hW
      refine (Tryz.strconv_Itoa k b0 b1 W (hE.below hW).pow).mono ?_
      rintro e w' ⟨rfl, j, os, rfl⟩
      exact ⟨rfl, Lib.below_grow W.heap.size W (Nat.le_refl _) j os⟩
    have heq := itoa_bytes k part
    have hpl : placeIn part many = if 0 ≤ k ∧ Lib.itoa k = part.data.toList ∧ k < many then some k.toNat else none := by
      unfold placeIn placeOf
      rw [hA]
      simp only
      by_cases h : 0 ≤ k ∧ Lib.itoa k = part.data.toList
      · rw [if_pos h, Option.bind_some]
        by_cases h3 : k < many
        · rw [if_pos (by omega), if_pos ⟨h.1, h.2, h3⟩]
        · rw [if_neg (by omega), if_neg fun hh => h3 hh.2.2]
      · rw [if_neg h, Option.bind_none, if_neg fun hh => h ⟨hh.1, hh.2.1⟩]
    clear hE he1 he2 he1' he2' hA
    generalize (⟨(Lib.itoa k).toArray⟩ : ByteArray) = it at heq hit
    by_cases h1 : Lib.itoa k = part.data.toList
    · rw [decide_eq_true h1] at heq
      by_cases h2 : 0 ≤ k
      · have z2 : ¬ k < 0 := by omega
        by_cases h3 : k < many
        · rw [hpl, if_pos ⟨h2, h1, h3⟩]
          have hk : ((k.toNat : Nat) : Int) = k := by omega
          have hpv : placeV (some k.toNat) = .tuple #[.int .i64 k, .bool true] := by
            show Value.tuple #[.int .i64 ((k.toNat : Nat) : Int), .bool true] = _
            rw [hk]
          rw [hpv]
          have z3 : ¬ (many : Int) ≤ k := by omega
          clear hpl h1 hk
          go_enter Tryz.func52, Tryz.ntmps52
          go_wp2_with fail
          refine hcall.mono ?_
          rintro e w1 ⟨rfl, hw1⟩
          have hb1 := bytes_below hw1
          clear hw1 hcall
          go_wp2_with fail
          refine (hit _ hb1).mono ?_
          rintro e w2 ⟨rfl, hb2⟩
          have hB := hb1.trans (hb2.mono hb1.size)
          clear hit hb1 hb2
          go_wp2
          go_ret2
          exact ⟨rfl, hB⟩
        · rw [hpl, if_neg fun hh => h3 hh.2.2]
          have z3 : (many : Int) ≤ k := by omega
          clear hpl h1
          go_enter Tryz.func52, Tryz.ntmps52
          go_wp2_with fail
          refine hcall.mono ?_
          rintro e w1 ⟨rfl, hw1⟩
          have hb1 := bytes_below hw1
          clear hw1 hcall
          go_wp2_with fail
          refine (hit _ hb1).mono ?_
          rintro e w2 ⟨rfl, hb2⟩
          have hB := hb1.trans (hb2.mono hb1.size)
          clear hit hb1 hb2
          go_wp2
          go_ret2
          exact ⟨rfl, hB⟩
      · rw [hpl, if_neg fun hh => h2 hh.1]
        have z2 : k < 0 := by omega
        clear hpl h1
        go_enter Tryz.func52, Tryz.ntmps52
        go_wp2_with fail
        refine hcall.mono ?_
        rintro e w1 ⟨rfl, hw1⟩
        have hb1 := bytes_below hw1
        clear hw1 hcall
        go_wp2_with fail
        refine (hit _ hb1).mono ?_
        rintro e w2 ⟨rfl, hb2⟩
        have hB := hb1.trans (hb2.mono hb1.size)
        clear hit hb1 hb2
        go_wp2
        go_ret2
        exact ⟨rfl, hB⟩
    · rw [decide_eq_false h1] at heq
      rw [hpl, if_neg fun hh => h1 hh.2.1]
      clear hpl h1
      go_enter Tryz.func52, Tryz.ntmps52
      go_wp2_with fail
      refine hcall.mono ?_
      rintro e w1 ⟨rfl, hw1⟩
      have hb1 := bytes_below hw1
      clear hw1 hcall
      go_wp2_with fail
      refine (hit _ hb1).mono ?_
      rintro e w2 ⟨rfl, hb2⟩
      have hB := hb1.trans (hb2.mono hb1.size)
      clear hit hb1 hb2
      go_wp2
      go_ret2
      exact ⟨rfl, hB⟩
  · have hcall := Tryz.strconv_Atoi_syntax part (by omega) hA ev1 w he1 he1'
    have hpl : placeIn part many = none := by unfold placeIn placeOf; rw [hA]; rfl
    rw [hpl]
    clear hE hpl hA he1 he2
    go_enter Tryz.func52, Tryz.ntmps52
    go_wp2_with fail
    refine hcall.mono ?_
    rintro e w1 ⟨N, rfl, -, -, hb⟩
    clear hcall
    go_wp2
    go_ret2
    exact ⟨rfl, hb⟩
  · have hcall := Tryz.strconv_Atoi_range part (by omega) hA ev2 w he2 he2'
    have hpl : placeIn part many = none := by unfold placeIn placeOf; rw [hA]; rfl
    rw [hpl]
    clear hE hpl hA he1 he2
    go_enter Tryz.func52, Tryz.ntmps52
    go_wp2_with fail
    refine hcall.mono ?_
    rintro e w1 ⟨N, rfl, -, -, hb⟩
    clear hcall
    go_wp2
    go_ret2
    exact ⟨rfl, hb⟩

/-- what a part leads to, as step tells it. -/
def StepTo (v : V) (l f : Value) (part : ByteArray) (e : Ending) : Prop :=
  (atP v part = none ∧ e = .returned (.pointer none)) ∨
  (v.kind = 5 ∧ ∃ j q y C c, v.fields[j]? = some (q, y) ∧ whereI (isName part) v.fields = (j : Nat) ∧ atP v part = some y ∧ f = .slice (some ⟨C, 0, none⟩) v.fields.length c ∧ e = .returned (.pointer (some ⟨C, j * 6 + 1, none⟩))) ∨
  (v.kind = 4 ∧ ∃ j y C c, placeOf part = some j ∧ v.list[j]? = some y ∧ atP v part = some y ∧ l = .slice (some ⟨C, 0, none⟩) v.list.length c ∧ e = .returned (.pointer (some ⟨C, j * 5, none⟩)))
theorem at5 {v : V} (hk : v.kind = 5) (part : ByteArray) : atP v part = getF part v.fields := if_pos hk
theorem at4 {v : V} (hk : v.kind = 4) (part : ByteArray) : atP v part = (placeOf part).bind fun i => v.list[i]? := by
  unfold atP; rw [if_neg (by omega), if_pos hk]
theorem at_none {v : V} (h5 : ¬ v.kind = 5) (h4 : ¬ v.kind = 4) (part : ByteArray) : atP v part = none := by
  unfold atP; rw [if_neg h5, if_neg h4]

set_option maxHeartbeats 2000000 in
theorem step6_any (n : Nat) (v : V) (l f : Value) (b o : Nat) (part : ByteArray) (w : World) (hE : PEnv w) (hp : part.size ≤ 1099511627776) (h : At n w b o v l f) :
    Calls Tryz.prog 30 #[.pointer (some ⟨b, o, none⟩), .string part] w fun e w' => StepTo v l f part e ∧ Below w.heap.size w w' := by
  obtain ⟨c0, c1, c2, c3, c4, hL⟩ := h
  have hl0 := lt_of_cell c0
  have hL' := Rep.up hL
  obtain ⟨⟨es, e1, e2, e3⟩, ⟨fs, f1, f2, f3⟩⟩ := hL'
  obtain ⟨a1, k1, a2, k2, rfl, rfl⟩ := Rep.slices hL
  have hB : Below w.heap.size w (w.alloc (.cells #[.string part] 9)) := (Below.refl _ _).alloc (Nat.le_refl _) _
  by_cases h5 : v.kind = 5
  · have hF : Calls Tryz.prog 50 #[.slice a2 v.fields.length k2, .func (.func 51) #[] #[.pointer (some ⟨w.heap.size, 0, none⟩)]] (w.alloc (.cells #[.string part] 9)) fun e w' => e = .returned (.int .i64 (whereI (isName part) v.fields)) ∧ Below (w.alloc (.cells #[.string part] 9)).heap.size (w.alloc (.cells #[.string part] 9)) w' := by
      rw [← f1]
      have hm : ∀ b, True → b < w.heap.size → True ∧ (w.alloc (.cells #[.string part] 9)).heap[b]? = w.heap[b]? := fun b _ h => ⟨trivial, hB.block b h⟩
      exact IndexFunc_any 51 _ entersStep1 (isName part) n fs _ _ (by rw [List.length_map]; have := f2.move hm; rwa [← f1, List.length_map] at this) (fun e he => Lies.below hB (f3 e he)) fun x hx W hWW => step1_any x.name part x.v x.l x.f _ _ W (Rep.shape (f3 x hx)) (by rw [hWW.cell (by simp)]; simp)
    have hfl : fs.length = v.fields.length := by rw [← f1, List.length_map]
    have hn := f2.2.1
    rw [h5] at c0
    rcases where_name part v.fields with ⟨h1, h2⟩ | ⟨j, q, y, h1, h2, h3, _, _⟩
    · rw [h1] at hF
      have hat : atP v part = none := by rw [at5 h5, h2]
      clear hL e1 e2 e3 f1 f2 f3 h1 h2 c3 c2 c1
      go_enter Tryz.func30, Tryz.ntmps30
      go_wp2_with fail
      refine hF.mono ?_
      rintro e w1 ⟨rfl, hb1⟩
      clear hF
      go_wp2
      go_ret
      exact ⟨.inl ⟨hat, rfl⟩, hB.trans (hb1.mono hB.size)⟩
    · have hj : j < v.fields.length := (List.getElem?_eq_some_iff.1 h2).1
      obtain ⟨C, c', e0, -, -, hc1, hc2, -⟩ := f2.cells (by omega)
      simp only [Value.slice.injEq] at e0
      obtain ⟨rfl, -, rfl⟩ := e0
      have hst : StepTo v (.slice a1 v.list.length k1) (.slice (some ⟨C, 0, none⟩) v.fields.length k2) part (.returned (.pointer (some ⟨C, j * 6 + 1, none⟩))) :=
        .inr (.inl ⟨h5, j, q, y, C, k2, h2, h1, by rw [at5 h5, h3], rfl, rfl⟩)
      rw [h1] at hF
      have zj : (j : Int) < (v.fields.length : Int) := by omega
      have zj0 : (0 : Int) ≤ (j : Int) := by omega
      have zn : v.fields.length ≤ 1000000 := by omega
      clear hL e1 e2 e3 f1 f2 f3 h1 h2 h3 c3 c2 c1 hfl hn
      go_enter Tryz.func30, Tryz.ntmps30
      go_wp2_with fail
      refine hF.mono ?_
      rintro e w1 ⟨rfl, hb1⟩
      have hB1 := hB.trans (hb1.mono hB.size)
      have c4' := (hB1.cell (p := ⟨b, o + 4, none⟩) hl0).trans c4
      clear hF
      go_wp2
      go_ret
      exact ⟨hst, hB1⟩
  by_cases h4 : v.kind = 4
  · have hel : es.length = v.list.length := by rw [← e1, List.length_map]
    have hn := e2.2.1
    rw [hel] at hn
    rw [h4] at c0
    have hB' := fun d os => hB.trans ((below_regrown (w.alloc (.cells #[.string part] 9)) d os).mono hB.size)
    have hcall := fun d os => Calls.regrown_of (place6_any part v.list.length (Go.Sort.grow (redrawn (w.alloc (.cells #[.string part] 9)) d) os) (hE.below (hB' d os)) hp)
    have p00 : (w.alloc (.cells #[.string part] 9)).cell? ⟨w.heap.size, 0, none⟩ = some (.string part) := by simp
    have p0 := below_regrown_cell p00
    have c3' : (w.alloc (.cells #[.string part] 9)).cell? ⟨b, o + 3, none⟩ = some (.slice a1 v.list.length k1) := (hB.cell (p := ⟨b, o + 3, none⟩) hl0).trans c3
    have C3 := below_regrown_cell c3'
    rcases hpi : placeIn part v.list.length with _ | j
    · have hat : atP v part = none := by
        rw [at4 h4]
        unfold placeIn at hpi
        rcases hq : placeOf part with _ | i
        · rfl
        · rw [hq, Option.bind_some] at hpi
          rw [Option.bind_some]
          by_cases hi : i < v.list.length
          · rw [if_pos hi] at hpi; cases hpi
          · exact List.getElem?_eq_none (by omega)
      simp only [hpi, placeV] at hcall
      clear hL e1 e2 e3 f1 f2 f3 c4 c2 c1 hE
      go_enter Tryz.func30, Tryz.ntmps30
      go_wp2_with fail
      refine wp_region_quiet_below mixed (by kernel_rfl) ?_
      iterate 6 go_big_quiet_step (fail)
      go_big_quiet_step (exact hcall _ _)
      iterate 5 go_big_quiet_step (fail)
      refine wpQuiet_nil ?_
      rintro w5 ⟨⟨dq, osq⟩, hw5⟩
      have hb5 : Below w.heap.size w w5 := by rw [hw5]; exact hB' dq osq
      clear hw5 hcall
      go_wp2_with fail
      go_ret
      exact ⟨.inl ⟨hat, rfl⟩, hb5⟩
    · have hpj : placeOf part = some j ∧ j < v.list.length := by
        unfold placeIn at hpi
        rcases hq : placeOf part with _ | i
        · rw [hq] at hpi; cases hpi
        · rw [hq, Option.bind_some] at hpi
          by_cases hi : i < v.list.length
          · rw [if_pos hi] at hpi; cases hpi; exact ⟨rfl, hi⟩
          · rw [if_neg hi] at hpi; cases hpi
      obtain ⟨hp1, hp2⟩ := hpj
      obtain ⟨C, c', e0, -, -, hc1, hc2, -⟩ := e2.cells (by omega)
      simp only [Value.slice.injEq] at e0
      obtain ⟨rfl, -, rfl⟩ := e0
      obtain ⟨y, hy⟩ : ∃ y, v.list[j]? = some y := ⟨_, List.getElem?_eq_getElem hp2⟩
      have hst : StepTo v (.slice (some ⟨C, 0, none⟩) v.list.length k1) (.slice a2 v.fields.length k2) part (.returned (.pointer (some ⟨C, j * 5, none⟩))) :=
        .inr (.inr ⟨h4, j, y, C, k1, hp1, hy, by rw [at4 h4, hp1, Option.bind_some, hy], rfl, rfl⟩)
      simp only [hpi, placeV] at hcall
      have zj : (j : Int) < (v.list.length : Int) := by omega
      have zj0 : (0 : Int) ≤ (j : Int) := by omega
      clear hL e1 e2 e3 f1 f2 f3 c4 c2 c1 hE hy hp1 hp2 hpi
      go_enter Tryz.func30, Tryz.ntmps30
      go_wp2_with fail
      refine wp_region_quiet_below mixed (by kernel_rfl) ?_
      iterate 6 go_big_quiet_step (fail)
      go_big_quiet_step (exact hcall _ _)
      iterate 5 go_big_quiet_step (fail)
      refine wpQuiet_nil ?_
      rintro w5 ⟨⟨dq, osq⟩, hw5⟩
      have hb5 : Below w.heap.size w w5 := by rw [hw5]; exact hB' dq osq
      have d3 := (hb5.cell (p := ⟨b, o + 3, none⟩) hl0).trans c3
      clear hw5 hcall
      go_wp2_with fail
      go_ret
      exact ⟨hst, hb5⟩
  · have e5 : (v.kind == 5) = false := by simpa using h5
    have e4 : (v.kind == 4) = false := by simpa using h4
    have hat := at_none h5 h4 part
    clear hL e1 e2 e3 f1 f2 f3 c4 c2 c1 c3 hE
    go_enter Tryz.func30, Tryz.ntmps30
    go_wp2_with fail
    go_ret
    exact ⟨.inl ⟨hat, rfl⟩, hB⟩
end Go.Proofs.YtgcccihnlecpnaaGreatDoor
