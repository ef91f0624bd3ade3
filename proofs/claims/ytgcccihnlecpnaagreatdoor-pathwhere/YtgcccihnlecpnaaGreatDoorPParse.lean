/-
  package path's Parse by its contract. Conditions: as stated (texts of at most 2^31 bytes).
-/
import Derived.Test.YtgcccihnlecpnaaGreatDoorPDot
import Derived.Test.YtgcccihnlecpnaaGreatDoorPFind
namespace Go.Proofs.YtgcccihnlecpnaaGreatDoor
open Go.RowKit

/-- what Parse tells. -/
def ParseAns (w' : World) : Option (List ByteArray) → Ending → Prop
  | none, e => ∃ u z, e = .returned (.tuple #[.slice none 0 0, .iface u z]) ∧ Flt 6 w' (.iface u z)
  | some ps, e => ∃ v, e = .returned (.tuple #[v, .nilIface]) ∧ StrsAt w' v ps

theorem parse_bad {s : ByteArray} (h : ¬ (Lib.validD s.data.toList = true ∧ (dots s).length ≤ 8 ∧ ∀ p ∈ dots s, goodPart p)) : parsePP s = none := if_neg h
theorem parse_good {s : ByteArray} (h : Lib.validD s.data.toList = true ∧ (dots s).length ≤ 8 ∧ ∀ p ∈ dots s, goodPart p) : parsePP s = some (dots s) := if_pos h

theorem new_flt {w : World} {c : Int} {p : ByteArray} : Flt c (w.alloc (.cells #[.string p, .iface 40 (.int .i64 c)] 91)) (.iface 89 (.pointer (some ⟨w.heap.size, 0, none⟩))) := by
  refine ⟨[p], _, _, rfl, ?_, rfl⟩
  show (Array.push _ _)[_]? = _
  rw [Array.getElem?_push, if_pos rfl]
theorem none_size {u : ByteArray} (h : u.size = 0) : u.toList = [] ∧ u.toList.isEmpty = true := by
  rw [ByteArray.toList_eq]
  have : u.data.toList = [] := List.length_eq_zero_iff.1 h
  rw [this]; exact ⟨rfl, rfl⟩
theorem some_size {u : ByteArray} (h : ¬ u.size = 0) : ¬ u.toList = [] ∧ u.toList.isEmpty = false := by
  rw [ByteArray.toList_eq]
  have : ¬ u.data.toList = [] := fun e => h (by have := congrArg List.length e; exact this)
  exact ⟨this, by rw [← Bool.not_eq_true, List.isEmpty_iff]; exact this⟩

set_option maxRecDepth 100000 in
set_option maxHeartbeats 2000000 in
theorem Parse6_any (s : ByteArray) (w : World) (hE : PEnv w) (hs : s.size ≤ 2147483648) :
    Calls Tryz.prog 16 #[.string s] w fun e w' => Below w.heap.size w w' ∧ ParseAns w' (parsePP s) e := by
  have hval := textValid_any s w (by omega) hE.u8
  by_cases hv : Lib.validD s.data.toList = true
  · rw [hv] at hval
    go_enter Tryz.func16, Tryz.ntmps16
    go_wp2_with fail
    refine hval.mono ?_
    rintro e w1 ⟨rfl, hb1⟩
    obtain ⟨m, hm⟩ := (hE.below hb1).maxLen
    have hsp := Tryz.strings_SplitN s ⟨#[46]⟩ 9 m w1 (by omega) hm (by decide) (by omega) (by omega)
    obtain ⟨n1, n2, n3⟩ := split_nine s
    have nN : (Lib.splitB ⟨#[46]⟩ 0 (min 9 (s.size + 1) - 1) s).length ≤ min 9 (s.size + 1) := by
      have := Lib.splitB_length_le ⟨#[46]⟩ 0 (min 9 (s.size + 1) - 1) s
      omega
    obtain ⟨N, hN⟩ : ∃ N, min 9 (s.size + 1) = N := ⟨_, rfl⟩
    have hN9 : N ≤ 9 := by omega
    rw [hN] at hsp n1 n2 n3 nN
    generalize Lib.splitB ⟨#[46]⟩ 0 (N - 1) s = xs at *
    have hE0 := (show Hid _ from hE)
    clear hval hN hE
    go_wp2_with fail
    refine hsp.mono ?_
    rintro e w2 ⟨rfl, rfl⟩
    have hb2 : Below w.heap.size w (w1.alloc (.cells (Lib.cellsOf xs N) 9)) := hb1.alloc hb1.size _
    have hcell : ∀ (j : Nat) (u : ByteArray), xs[j]? = some u → (w1.alloc (.cells (Lib.cellsOf xs N) 9)).cell? ⟨w1.heap.size, j, none⟩ = some (.string u) := by
      intro j u hj
      have hg := heap_alloc_new w1 (.cells (Lib.cellsOf xs N) 9)
      have hjl : j < xs.length := (List.getElem?_eq_some_iff.1 hj).1
      have : (Lib.cellsOf xs N)[j]? = some (.string u) := by
        simp only [Lib.cellsOf, List.getElem?_toArray]
        rw [List.getElem?_append_left (by simpa using hjl), List.getElem?_map, hj]; rfl
      exact cell_of_heap hg this
    generalize hW2 : w1.alloc (.cells (Lib.cellsOf xs N) 9) = w2 at *
    have hS2 : StrsAt w2 (.slice (some ⟨w1.heap.size, 0, none⟩) xs.length N) xs := ⟨_, N, rfl, nN, by omega, fun _ => ⟨_, 0, rfl, fun j u hj => by rw [Nat.zero_add]; exact hcell j u hj⟩⟩
    clear hsp
    go_wp2
    go_loopg [5, 6, 15] xs.length (fun gg _ _ i wr => ∃ k : Nat, k ≤ xs.length ∧ k ≤ 8 ∧ xs.length - k ≤ gg ∧ i = .int .i64 k ∧ Aside (wr = w2 ∧ ∀ j u, j < k → xs[j]? = some u → goodPart u))
    case atStart => exact ⟨0, Nat.zero_le _, Nat.zero_le _, by omega, rfl, rfl, fun j _ hj => absurd hj (Nat.not_lt_zero _)⟩
    case round =>
      obtain ⟨k, hk, hk8, hgg, rfl, R⟩ := hrel
      obtain ⟨rfl, hgood⟩ := R.out
      by_cases hlt : k < xs.length
      · obtain ⟨u, hu⟩ : ∃ u, xs[k]? = some u := ⟨_, List.getElem?_eq_getElem hlt⟩
        have c0 := hcell k u hu
        have zk : (k : Int) < (xs.length : Int) := by omega
        have hwr := wrong_any k (by omega) wr (hE0.out.below hb2)
        by_cases h8 : k = 8
        · subst h8
          have hwr8 : Calls Tryz.prog 23 #[.int .i64 8] wr fun e w' => ∃ u z, e = .returned (.iface u z) ∧ Flt 6 w' (.iface u z) ∧ Below wr.heap.size wr w' := hwr
          have hno : parsePP s = none := parse_bad fun hh => by
            have := n2 hh.2.1
            rw [this] at hlt; omega
          clear hcell hgood n1 n2 n3 hwr
          go_wp2_with fail
          refine hwr8.mono ?_
          rintro e w3 ⟨ue, ze, rfl, hf, hb3⟩
          go_wp2
          go_ret2
          rw [hno]
          exact ⟨hb2.trans (hb3.mono hb2.size), ue, ze, rfl, hf⟩
        · have z8 : ((k : Int) == 8) = false := by simp; omega
          by_cases hg : goodPart u
          · obtain ⟨q1, q2⟩ := some_size (u := u) (by have := hg.1; omega)
            have z32 : ¬ (32 : Int) < (u.size : Int) := by have := hg.2; omega
            have hg2 : ∀ j u, j < k + 1 → xs[j]? = some u → goodPart u := by
              intro j u' hj hu'
              by_cases e : j = k
              · subst e
                rw [hu] at hu'
                cases hu'
                exact hg
              · exact hgood j u' (by omega) hu'
            have Q := (show Aside _ from And.intro (rfl : wr = wr) hg2)
            clear hcell hgood n1 n2 n3 hwr hg2
            go_wp2
            go_roundg (xs.length - (k + 1))
            case measure => omega
            case rel => exact ⟨k + 1, by omega, by omega, by omega, by go_num, (show Aside _ from And.intro rfl Q.out.2)⟩
          · have hno : parsePP s = none := parse_bad fun hh => by
              have e := n2 hh.2.1
              rw [e] at hu
              exact hg (hh.2.2 u (List.mem_of_getElem? hu))
            by_cases q : u.size = 0
            · obtain ⟨q1, q2⟩ := none_size q
              clear hcell hgood n1 n2 n3
              go_wp2_with fail
              refine hwr.mono ?_
              rintro e w3 ⟨ue, ze, rfl, hf, hb3⟩
              go_wp2
              go_ret2
              rw [hno]
              exact ⟨hb2.trans (hb3.mono hb2.size), ue, ze, rfl, hf⟩
            · obtain ⟨q1, q2⟩ := some_size q
              have z32 : (32 : Int) < (u.size : Int) := by
                have : ¬ (1 ≤ u.size ∧ u.size ≤ 32) := hg
                omega
              clear hcell hgood n1 n2 n3
              go_wp2_with fail
              refine hwr.mono ?_
              rintro e w3 ⟨ue, ze, rfl, hf, hb3⟩
              go_wp2
              go_ret2
              rw [hno]
              exact ⟨hb2.trans (hb3.mono hb2.size), ue, ze, rfl, hf⟩
      · have zk : ¬ (k : Int) < (xs.length : Int) := by omega
        have hyes : parsePP s = some xs := by
          have hD : (dots s).length ≤ 8 := by
            rcases Nat.lt_or_ge 8 (dots s).length with h | h
            · have := n3 h; omega
            · exact h
          rw [n2 hD]
          refine parse_good ⟨hv, hD, fun p hp => ?_⟩
          rw [← n2 hD] at hp
          obtain ⟨j, hj⟩ := List.mem_iff_getElem?.1 hp
          exact hgood j p (by have := (List.getElem?_eq_some_iff.1 hj).1; omega) hj
        clear hcell hgood n1 n2 n3
        go_wp2
        go_ret2
        try rw [hyes]
        exact ⟨hb2, _, rfl, hS2⟩
  · have hv' : Lib.validD s.data.toList = false := by simpa using hv
    have hno : parsePP s = none := parse_bad fun hh => hv hh.1
    rw [hv'] at hval
    go_enter Tryz.func16, Tryz.ntmps16
    go_wp2_with fail
    refine hval.mono ?_
    rintro e w1 ⟨rfl, hb1⟩
    clear hval
    go_wp2_with fail
    refine (New_some 6 rfl _ _).mono ?_
    rintro e w2 ⟨rfl, rfl⟩
    go_wp2
    go_ret2
    rw [hno]
    exact ⟨hb1.alloc hb1.size _, _, _, rfl, new_flt⟩
end Go.Proofs.YtgcccihnlecpnaaGreatDoor
