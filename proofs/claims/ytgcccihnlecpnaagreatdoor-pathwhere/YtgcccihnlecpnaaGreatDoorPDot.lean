/-
  The parts of a text between which dots stand, as plain data. No conditions.
-/
import Derived.Lib.SplitLaws
import Derived.Lib.ValidLaws
namespace Go.Proofs.YtgcccihnlecpnaaGreatDoor

/-- the parts, of which the first one has begun already. -/
def dotG : List UInt8 → List UInt8 → List (List UInt8)
  | p, [] => [p]
  | p, c :: l => if c = 46 then p :: dotG [] l else dotG (p ++ [c]) l
theorem dotG_pos : ∀ (l p : List UInt8), 1 ≤ (dotG p l).length
  | [], p => by simp [dotG]
  | c :: l, p => by
    unfold dotG
    split
    · simp
    · exact dotG_pos l _
theorem dotG_le : ∀ (l p : List UInt8), (dotG p l).length ≤ l.length + 1
  | [], p => by simp [dotG]
  | c :: l, p => by
    unfold dotG
    split
    · have := dotG_le l []; simp; omega
    · have := dotG_le l (p ++ [c]); simp; omega
theorem dot_index : ∀ (s p : List UInt8), (Lib.index s [46] = -1 ∧ dotG p s = [p ++ s]) ∨ ∃ i : Nat, Lib.index s [46] = i ∧ i < s.length ∧ dotG p s = (p ++ s.take i) :: dotG [] (s.drop (i + 1))
  | [], p => .inl ⟨by simp [Lib.index], by simp [dotG]⟩
  | c :: l, p => by
    by_cases h : c = 46
    · right
      subst h
      exact ⟨0, by rw [Lib.index]; simp [List.isPrefixOf], by simp, by simp [dotG]⟩
    · have hp : ([46] : List UInt8).isPrefixOf (c :: l) = false := by simp [List.isPrefixOf, Ne.symm h]
      have hix : Lib.index (c :: l) [46] = if Lib.index l [46] == -1 then -1 else Lib.index l [46] + 1 := by rw [Lib.index, hp]; simp
      have hd : dotG p (c :: l) = dotG (p ++ [c]) l := by rw [dotG, if_neg h]
      rcases dot_index l (p ++ [c]) with ⟨h1, h2⟩ | ⟨i, h1, h2, h3⟩
      · left
        exact ⟨by rw [hix, h1]; rfl, by rw [hd, h2]; simp⟩
      · right
        refine ⟨i + 1, ?_, by simp; omega, by rw [hd, h3]; simp⟩
        rw [hix, h1, if_neg (fun e => by have := beq_iff_eq.1 e; omega)]; omega
theorem splitK_dot : ∀ (k : Nat) (s : List UInt8), (Lib.splitK [46] 0 k s).length = min (k + 1) (dotG [] s).length ∧ (Lib.splitK [46] 0 k s).take k = (dotG [] s).take k ∧ ((dotG [] s).length ≤ k + 1 → Lib.splitK [46] 0 k s = dotG [] s)
  | 0, s => by
    have hp := dotG_pos s []
    refine ⟨by simp [Lib.splitK]; omega, by simp, fun h => ?_⟩
    rcases dot_index s [] with ⟨_, h2⟩ | ⟨i, _, _, h3⟩
    · rw [h2]; simp [Lib.splitK]
    · rw [h3] at h
      have hq := dotG_pos (s.drop (i + 1)) []
      rw [List.length_cons] at h
      omega
  | k + 1, s => by
    rcases dot_index s [] with ⟨h1, h2⟩ | ⟨i, h1, h2, h3⟩
    · have e : Lib.splitK [46] 0 (k + 1) s = [s] := by rw [Lib.splitK, if_pos (beq_iff_eq.2 h1)]
      rw [e, h2]
      simp
    · have e : Lib.splitK [46] 0 (k + 1) s = s.take i :: Lib.splitK [46] 0 k (s.drop (i + 1)) := by
        rw [Lib.splitK, if_neg (fun e => by have := beq_iff_eq.1 e; omega), h1]
        simp
      obtain ⟨g1, g2, g3⟩ := splitK_dot k (s.drop (i + 1))
      rw [e, h3]
      refine ⟨by simp only [List.length_cons]; omega, by simp only [List.take_succ_cons, g2, List.nil_append], fun h => ?_⟩
      rw [g3 (by simp only [List.length_cons] at h; omega), List.nil_append]

def mkB (l : List UInt8) : ByteArray := ⟨l.toArray⟩
/-- the parts of a text. -/
def dots (s : ByteArray) : List ByteArray := (dotG [] s.data.toList).map mkB
abbrev goodPart (p : ByteArray) : Prop := 1 ≤ p.size ∧ p.size ≤ 32
/-- a path by its parts. -/
def parsePP (s : ByteArray) : Option (List ByteArray) :=
  if Lib.validD s.data.toList = true ∧ (dots s).length ≤ 8 ∧ ∀ p ∈ dots s, goodPart p then some (dots s) else none
theorem mkB_data (b : ByteArray) : mkB b.data.toList = b := by
  obtain ⟨⟨l⟩⟩ := b; rfl
/-- what SplitN hands back of at most nine. -/
theorem split_nine (s : ByteArray) : ((Lib.splitB ⟨#[46]⟩ 0 (min 9 (s.size + 1) - 1) s).length ≤ 9) ∧ ((dots s).length ≤ 8 → Lib.splitB ⟨#[46]⟩ 0 (min 9 (s.size + 1) - 1) s = dots s) ∧ (8 < (dots s).length → 8 < (Lib.splitB ⟨#[46]⟩ 0 (min 9 (s.size + 1) - 1) s).length) := by
  have hd := Lib.splitB_data ⟨#[46]⟩ 0 (min 9 (s.size + 1) - 1) s
  have hl := congrArg List.length hd
  rw [List.length_map] at hl
  have hb : Lib.splitB ⟨#[46]⟩ 0 (min 9 (s.size + 1) - 1) s = (Lib.splitK [46] 0 (min 9 (s.size + 1) - 1) s.data.toList).map mkB := by
    have := congrArg (List.map mkB) hd
    rw [List.map_map] at this
    have e : (mkB ∘ fun b : ByteArray => b.data.toList) = id := by funext b; exact mkB_data b
    rw [e, List.map_id] at this
    exact this
  obtain ⟨g1, g2, g3⟩ := splitK_dot (min 9 (s.size + 1) - 1) s.data.toList
  have hz : s.data.toList.length = s.size := rfl
  have hle := dotG_le s.data.toList []
  have hdl : (dots s).length = (dotG [] s.data.toList).length := List.length_map ..
  have e46 : ((⟨#[46]⟩ : ByteArray).data.toList) = [46] := rfl
  rw [e46] at hl
  rw [hl, g1, hdl]
  refine ⟨by omega, fun h => ?_, fun h => by omega⟩
  rw [hb, g3 (by omega)]
  rfl
end Go.Proofs.YtgcccihnlecpnaaGreatDoor
