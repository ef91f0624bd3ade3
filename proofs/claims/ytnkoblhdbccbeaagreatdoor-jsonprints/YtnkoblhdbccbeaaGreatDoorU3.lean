/-
  Numbers as JSON, as plain functions of bytes: what is printed is read. No conditions beyond those stated.
  Values of documents as they lie in memory: rows of cells, so deep. No conditions beyond those stated.
  Rows that are written in place; package twin's list by its contract. No conditions beyond those stated.
  package twin's fields and Value by their contracts. No conditions beyond those stated.
  package twin's Value by its contract. No conditions beyond those stated.
-/
import Derived.Test.YtnkoblhdbccbeaaGreatDoorU2
import Derived.Test.YtnkoblhdbccbeaaGreatDoorProg
import Derived.Test.YtnkoblhdbccbeaaGreatDoorU1
import Derived.WalkKit
import Derived.Below
import Derived.LoopTactic
import Derived.WalkSmall
import Derived.Deep.LoopGhost
import Derived.Deep.RegionWith
import Derived.WalkLawsBesides
import Derived.WalkSpells
import Derived.Lib.LazyBuf
namespace Go.Proofs.YtnkoblhdbccbeaaGreatDoor

def stp (a : Nat) (b : UInt8) : Nat := a * 10 + (b.toNat - 48)
/-- the number that digits are. -/
def val (acc : Nat) (l : List UInt8) : Nat := l.foldl stp acc
theorem val_nil (acc : Nat) : val acc [] = acc := by unfold val; exact List.foldl_nil
theorem val_cons (acc : Nat) (b : UInt8) (t : List UInt8) : val acc (b :: t) = val (stp acc b) t := by unfold val; exact List.foldl_cons ..
theorem stp_eq (a : Nat) (b : UInt8) : stp a b = a * 10 + (b.toNat - 48) := by rw [stp]
theorem val_le (l : List UInt8) : ∀ (acc : Nat), acc ≤ val acc l := by
  induction l with
  | nil => exact fun acc => Nat.le_refl _
  | cons b t ih =>
    intro acc
    rw [val_cons]
    refine Nat.le_trans ?_ (ih _)
    rw [stp_eq]
    omega
theorem val_snoc (l : List UInt8) (b : UInt8) (acc : Nat) : val acc (l ++ [b]) = stp (val acc l) b := by
  unfold val
  rw [List.foldl_append, List.foldl_cons, List.foldl_nil]
theorem val_ok (M : Nat) (hM : M < 18446744073709551616) : ∀ (l : List UInt8) (acc : Nat), (∀ b ∈ l, isDg b) → val acc l ≤ M → Lib.parseUintM M acc l = .ok (val acc l)
  | [], _, _, _ => rfl
  | b :: t, acc, hd, hv => by
    have hb := hd b (by simp)
    rw [val_cons] at hv ⊢
    have h1 := val_le t (stp acc b)
    have h2 := stp_eq acc b
    simp only [Lib.parseUintM]
    rw [if_pos hb, if_neg (by omega), if_neg (by omega), ← h2]
    exact val_ok M hM t _ (fun x hx => hd x (by simp [hx])) hv
theorem val_of_ok (M : Nat) : ∀ (l : List UInt8) (acc u : Nat), (∀ b ∈ l, isDg b) → Lib.parseUintM M acc l = .ok u → acc ≤ M → u = val acc l ∧ u ≤ M
  | [], acc, u, _, h, ha => by
    simp only [Lib.parseUintM] at h
    injection h with h
    subst h
    exact ⟨rfl, ha⟩
  | b :: t, acc, u, hd, h, ha => by
    have hb := hd b (by simp)
    simp only [Lib.parseUintM] at h
    rw [if_pos hb] at h
    split at h
    · cases h
    · split at h
      · cases h
      · rw [val_cons, stp_eq]
        exact val_of_ok M t _ u (fun x hx => hd x (by simp [hx])) h (by omega)

theorem dg_byte (d : Nat) (h : d < 10) : (UInt8.ofNat (48 + d)).toNat = 48 + d := by
  rw [UInt8.toNat_ofNat']; omega
theorem dec_all : ∀ (u : Nat), ∀ b ∈ Lib.decDigits u, isDg b := by
  intro u
  induction u using Nat.strongRecOn with
  | _ u ih =>
    intro b hb
    rw [Lib.decDigits] at hb
    split at hb
    · rename_i h
      rw [List.mem_singleton] at hb
      rw [hb]
      show 48 ≤ _ ∧ _ ≤ 57
      rw [dg_byte u h]; omega
    · rcases List.mem_append.1 hb with hb | hb
      · exact ih (u / 10) (by omega) b hb
      · rw [List.mem_singleton] at hb
        rw [hb]
        show 48 ≤ _ ∧ _ ≤ 57
        rw [dg_byte _ (by omega)]; omega
theorem dec_ne (u : Nat) : Lib.decDigits u ≠ [] := by
  rw [Lib.decDigits]
  split <;> simp
theorem hd_append {a b : List UInt8} (h : a ≠ []) : hd (a ++ b) = hd a := by
  cases a with
  | nil => exact absurd rfl h
  | cons x t => rfl
theorem dec_head : ∀ (u : Nat), u ≠ 0 → 49 ≤ hd (Lib.decDigits u) ∧ hd (Lib.decDigits u) ≤ 57 := by
  intro u
  induction u using Nat.strongRecOn with
  | _ u ih =>
    intro h0
    rw [Lib.decDigits]
    split
    · rename_i h
      show 49 ≤ (UInt8.ofNat (48 + u)).toNat ∧ _
      show _ ∧ (UInt8.ofNat (48 + u)).toNat ≤ 57
      rw [dg_byte u h]; omega
    · rw [hd_append (dec_ne _)]
      exact ih (u / 10) (by omega) (by omega)
theorem dec_zero : Lib.decDigits 0 = [48] := by rw [Lib.decDigits]; rfl
theorem dec_val : ∀ (u : Nat), val 0 (Lib.decDigits u) = u := by
  intro u
  induction u using Nat.strongRecOn with
  | _ u ih =>
    rw [Lib.decDigits]
    split
    · rename_i h
      rw [val_cons, val_nil, stp_eq, dg_byte u h]; omega
    · rw [val_snoc, ih (u / 10) (by omega), stp_eq, dg_byte _ (by omega)]
      omega

theorem digs_append : ∀ (l R : List UInt8), (∀ b ∈ l, isDg b) → ¬ (48 ≤ hd R ∧ hd R ≤ 57) → digs (l ++ R) = l.length
  | [], R, _, h => by
    cases R with
    | nil => rfl
    | cons b t => exact if_neg h
  | b :: t, R, hl, h => by
    have hb := hl b (by simp)
    show (if isDg b then digs (t ++ R) + 1 else 0) = _
    rw [if_pos hb, digs_append t R (fun x hx => hl x (by simp [hx])) h]
    rfl
theorem digN_dec (u : Nat) (R : List UInt8) (h : ¬ (48 ≤ hd R ∧ hd R ≤ 57)) : digN (Lib.decDigits u ++ R) = some (Lib.decDigits u).length := by
  unfold digN
  by_cases h0 : u = 0
  · subst h0
    rw [dec_zero]
    rw [if_pos (show hd ([48] ++ R) = 48 from rfl)]
    exact if_neg (show ¬ (48 ≤ hd (([48] ++ R).drop 1) ∧ hd (([48] ++ R).drop 1) ≤ 57) from h)
  · have hh := dec_head u h0
    have hne : (Lib.decDigits u).length ≠ 0 := fun e => dec_ne u (List.eq_nil_of_length_eq_zero e)
    rw [if_neg (by rw [hd_append (dec_ne u)]; omega), digs_append _ _ (dec_all u) h, if_neg hne]

/-- the sign of a number, and its digits. -/
theorem itoa_cases (n : Int) : (n < 0 ∧ Lib.itoa n = 45 :: Lib.decDigits n.natAbs) ∨ (0 ≤ n ∧ Lib.itoa n = Lib.decDigits n.toNat) := by
  unfold Lib.itoa
  by_cases h : n < 0
  · exact .inl ⟨h, if_pos h⟩
  · exact .inr ⟨by omega, if_neg h⟩
theorem dec_hd_dg (u : Nat) : 48 ≤ hd (Lib.decDigits u) ∧ hd (Lib.decDigits u) ≤ 57 := by
  by_cases h : u = 0
  · subst h; rw [dec_zero]; exact ⟨Nat.le_refl _, by decide⟩
  · have := dec_head u h; omega
theorem itoa_hd (n : Int) : hd (Lib.itoa n) = 45 ∨ (48 ≤ hd (Lib.itoa n) ∧ hd (Lib.itoa n) ≤ 57) := by
  rcases itoa_cases n with ⟨_, e⟩ | ⟨_, e⟩
  · rw [e]; exact .inl rfl
  · rw [e]; exact .inr (dec_hd_dg _)
theorem itoa_ne (n : Int) : Lib.itoa n ≠ [] := by
  rcases itoa_cases n with ⟨_, e⟩ | ⟨_, e⟩
  · rw [e]; simp
  · rw [e]; exact dec_ne _
theorem cons_hd {l : List UInt8} (h : l ≠ []) : ∃ b t, l = b :: t ∧ b.toNat = hd l := by
  cases l with
  | nil => exact absurd rfl h
  | cons b t => exact ⟨b, t, rfl, rfl⟩
theorem skip_hd {l : List UInt8} (h : hd l ≠ 9 ∧ hd l ≠ 10 ∧ hd l ≠ 13 ∧ hd l ≠ 32) : skip l = l := by
  cases l with
  | nil => rfl
  | cons b t =>
    simp only [skip]
    rw [if_neg]
    intro h'
    have h : b.toNat ≠ 9 ∧ b.toNat ≠ 10 ∧ b.toNat ≠ 13 ∧ b.toNat ≠ 32 := h
    rcases h' with e | e | e | e <;> omega

theorem take_app (a b : List UInt8) : (a ++ b).take a.length = a := List.take_left
theorem drop_app (a b : List UInt8) : (a ++ b).drop a.length = b := List.drop_left

/-- digits of a number behind its sign: how many there are. -/
theorem num_shape (n : Int) (R : List UInt8) (h : ¬ (48 ≤ hd R ∧ hd R ≤ 57)) : numP (Lib.itoa n ++ R) = numEnd (Lib.itoa n ++ R) (Lib.itoa n).length := by
  unfold numP
  rcases itoa_cases n with ⟨_, e⟩ | ⟨_, e⟩
  · have hs : sgn (Lib.itoa n ++ R) = 1 := by rw [e]; rfl
    have hd1 : (Lib.itoa n ++ R).drop 1 = Lib.decDigits n.natAbs ++ R := by rw [e]; rfl
    have hl : (Lib.itoa n).length = 1 + (Lib.decDigits n.natAbs).length := by rw [e, List.length_cons]; omega
    rw [hs, hd1, digN_dec _ _ h, hl]
  · have hs : sgn (Lib.itoa n ++ R) = 0 := by
      unfold sgn
      have := dec_hd_dg n.toNat
      rw [hd_append (itoa_ne n), e, if_neg (by omega)]
    rw [hs, List.drop_zero, e, digN_dec _ _ h]
    show numEnd _ (0 + (Lib.decDigits n.toNat).length) = _
    rw [Nat.zero_add]

theorem parse_itoa (n : Int) (h0 : -9223372036854775808 ≤ n) (h1 : n ≤ 9223372036854775807) : Lib.parseIntB 64 (Lib.itoa n) = .ok n := by
  rcases itoa_cases n with ⟨hn, e⟩ | ⟨hn, e⟩
  · rw [e]
    unfold Lib.parseIntB
    simp only
    have hp : Lib.parseUintB 64 (Lib.decDigits n.natAbs) = .ok n.natAbs := by
      unfold Lib.parseUintB
      rw [if_neg (dec_ne _), val_ok _ (by decide) _ _ (dec_all _) (by rw [dec_val]; omega), dec_val]
    rw [if_pos (.inr (by decide)), hp]
    simp only
    rw [if_neg (fun h => h.1 (by decide)), if_neg (fun h => by have := h.2; omega), if_pos (by decide)]
    congr 1
    omega
  · obtain ⟨b, t, hbt, hbh⟩ := cons_hd (dec_ne n.toNat)
    have hdg := dec_hd_dg n.toNat
    have hp : Lib.parseUintB 64 (Lib.decDigits n.toNat) = .ok n.toNat := by
      unfold Lib.parseUintB
      rw [if_neg (dec_ne _), val_ok _ (by decide) _ _ (dec_all _) (by rw [dec_val]; omega), dec_val]
    rw [e, hbt]
    unfold Lib.parseIntB
    simp only
    rw [if_neg (by omega), ← hbt, hp]
    simp only
    rw [if_neg (fun h => by have := h.2; omega), if_neg (fun h => by have := h.1; omega), if_neg (by omega)]
    congr 1
    omega

theorem num_itoa (n : Int) (h0 : -9223372036854775808 ≤ n) (h1 : n ≤ 9223372036854775807) (R : List UInt8) (h : ¬ (48 ≤ hd R ∧ hd R ≤ 57)) (hR : ¬ (hd R = 46 ∨ hd R = 101 ∨ hd R = 69)) : numP (Lib.itoa n ++ R) = .ok (intV n, R) := by
  rw [num_shape n R h]
  unfold numEnd
  rw [drop_app, take_app, if_neg hR, parse_itoa n h0 h1]
theorem num_frac (n : Int) (R : List UInt8) (hR : hd R = 46 ∨ hd R = 101 ∨ hd R = 69) : numP (Lib.itoa n ++ R) = .error 4 := by
  rw [num_shape n R (by omega)]
  unfold numEnd
  rw [drop_app, if_pos hR]

/-- a number that no 64 bits hold. -/
theorem digs_many (u : Nat) (_h : u ≠ 0) : Lib.decDigits u ++ List.replicate 19 48 ≠ [] ∧ (∀ b ∈ Lib.decDigits u ++ List.replicate 19 48, isDg b) ∧ val 0 (Lib.decDigits u ++ List.replicate 19 48) = u * 10000000000000000000 := by
  refine ⟨by simp [dec_ne], fun b hb => ?_, ?_⟩
  · rcases List.mem_append.1 hb with hb | hb
    · exact dec_all u b hb
    · rw [List.eq_of_mem_replicate hb]; exact ⟨by decide, by decide⟩
  · have hz : ∀ (k : Nat) (acc : Nat), val acc (List.replicate k 48) = acc * 10 ^ k := by
      intro k
      induction k with
      | zero => intro acc; rw [Nat.pow_zero, Nat.mul_one]; exact val_nil acc
      | succ k ih =>
        intro acc
        rw [List.replicate_succ, val_cons, ih, stp_eq, Nat.pow_succ, show (48 : UInt8).toNat - 48 = 0 from rfl, Nat.add_zero, Nat.mul_assoc, Nat.mul_comm 10]
    have hv : val 0 (Lib.decDigits u ++ List.replicate 19 48) = val (val 0 (Lib.decDigits u)) (List.replicate 19 48) := by
      unfold val; rw [List.foldl_append]
    rw [hv, dec_val, hz]
theorem uint_many {u : Nat} (h : u ≠ 0) (v : Nat) : Lib.parseUintB 64 (Lib.decDigits u ++ List.replicate 19 48) = .ok v → 9223372036854775808 < v := by
  obtain ⟨h1, h2, h3⟩ := digs_many u h
  unfold Lib.parseUintB
  rw [if_neg h1]
  intro hv
  have := val_of_ok _ _ _ _ h2 hv (Nat.zero_le _)
  rw [h3] at this
  omega
theorem num_zeros (n : Int) (h : n ≠ 0) : numP (Lib.itoa n ++ List.replicate 19 48) = .error 4 := by
  have hd0 : ¬ (48 ≤ hd ([] : List UInt8) ∧ hd ([] : List UInt8) ≤ 57) := by decide
  have hsh : ∃ l : List UInt8, numP (Lib.itoa n ++ List.replicate 19 48) = numEnd l l.length ∧ ∀ v, Lib.parseIntB 64 l ≠ .ok v := by
    rcases itoa_cases n with ⟨hn, e⟩ | ⟨hn, e⟩
    · refine ⟨45 :: (Lib.decDigits n.natAbs ++ List.replicate 19 48), ?_, ?_⟩
      · rw [e]
        unfold numP
        have hu : n.natAbs ≠ 0 := by omega
        obtain ⟨h1, h2, h3⟩ := digs_many n.natAbs hu
        have hh := dec_head n.natAbs hu
        have hdn : digN (Lib.decDigits n.natAbs ++ List.replicate 19 48) = some (Lib.decDigits n.natAbs ++ List.replicate 19 48).length := by
          unfold digN
          rw [if_neg (by rw [hd_append (dec_ne _)]; omega)]
          have := digs_append (Lib.decDigits n.natAbs ++ List.replicate 19 48) [] h2 hd0
          rw [List.append_nil] at this
          rw [this, if_neg (fun e => h1 (List.eq_nil_of_length_eq_zero e))]
        obtain ⟨X, hX⟩ : ∃ X : List UInt8, Lib.decDigits n.natAbs ++ List.replicate 19 48 = X := ⟨_, rfl⟩
        rw [hX] at hdn
        rw [List.cons_append, hX]
        rw [show sgn (45 :: X) = 1 from rfl, List.drop_succ_cons, List.drop_zero, hdn]
        show numEnd _ (1 + _) = _
        rw [List.length_cons, Nat.add_comm]
      · intro v hv
        unfold Lib.parseIntB at hv
        simp only at hv
        rw [if_pos (.inr (by decide))] at hv
        cases hp : Lib.parseUintB 64 (Lib.decDigits n.natAbs ++ List.replicate 19 48) with
        | ok u =>
          rw [hp] at hv
          have := uint_many (show n.natAbs ≠ 0 by omega) u hp
          simp only at hv
          rw [if_neg (fun h => h.1 (by decide)), if_pos ⟨by decide, by omega⟩] at hv
          cases hv
        | «syntax» => rw [hp] at hv; cases hv
        | range => rw [hp] at hv; cases hv
    · refine ⟨Lib.decDigits n.toNat ++ List.replicate 19 48, ?_, ?_⟩
      · rw [e]
        unfold numP
        have hu : n.toNat ≠ 0 := by omega
        obtain ⟨h1, h2, h3⟩ := digs_many n.toNat hu
        have hh := dec_head n.toNat hu
        have hdn : digN (Lib.decDigits n.toNat ++ List.replicate 19 48) = some (Lib.decDigits n.toNat ++ List.replicate 19 48).length := by
          unfold digN
          rw [if_neg (by rw [hd_append (dec_ne _)]; omega)]
          have := digs_append (Lib.decDigits n.toNat ++ List.replicate 19 48) [] h2 hd0
          rw [List.append_nil] at this
          rw [this, if_neg (fun e => h1 (List.eq_nil_of_length_eq_zero e))]
        have hs : sgn (Lib.decDigits n.toNat ++ List.replicate 19 48) = 0 := by
          unfold sgn
          rw [hd_append (dec_ne _), if_neg (by omega)]
        rw [hs, List.drop_zero, hdn]
        show numEnd _ (0 + _) = _
        rw [Nat.zero_add]
      · intro v hv
        have hu : n.toNat ≠ 0 := by omega
        have hh := dec_head n.toNat hu
        obtain ⟨b, t, hbt, hbh⟩ := cons_hd (show Lib.decDigits n.toNat ++ List.replicate 19 48 ≠ [] by simp [dec_ne])
        rw [hd_append (dec_ne _)] at hbh
        rw [hbt] at hv
        unfold Lib.parseIntB at hv
        simp only at hv
        rw [if_neg (by omega), ← hbt] at hv
        cases hp : Lib.parseUintB 64 (Lib.decDigits n.toNat ++ List.replicate 19 48) with
        | ok u =>
          rw [hp] at hv
          have := uint_many hu u hp
          simp only at hv
          rw [if_pos ⟨by omega, by omega⟩] at hv
          cases hv
        | «syntax» => rw [hp] at hv; cases hv
        | range => rw [hp] at hv; cases hv
  obtain ⟨l, e, hno⟩ := hsh
  rw [e]
  unfold numEnd
  rw [List.drop_length, if_neg (by decide), List.take_length]
  cases hp : Lib.parseIntB 64 l with
  | ok v => exact absurd hp (hno v)
  | «syntax» => rfl
  | range => rfl

/-- numbers are read by valueP. -/
theorem value_num {l : List UInt8} (h : hd l = 45 ∨ (48 ≤ hd l ∧ hd l ≤ 57)) (n : Nat) : valueP (n + 1) l = numP l := by
  have hs : skip l = l := skip_hd (by omega)
  simp only [valueP]
  rw [hs, if_pos h]
theorem parse_value {l : List UInt8} (hl : l.length ≤ 4096) : parseP l = match valueP 16 l with | .error e => .error e | .ok r => if skip r.2 = [] then .ok r.1 else .error 1 := by
  unfold parseP
  rw [if_neg (by omega)]
  rfl
theorem itoa_hd_app (n : Int) (R : List UInt8) : hd (Lib.itoa n ++ R) = 45 ∨ (48 ≤ hd (Lib.itoa n ++ R) ∧ hd (Lib.itoa n ++ R) ≤ 57) := by
  rw [hd_append (itoa_ne n)]; exact itoa_hd n
theorem parse_int (n : Int) (h0 : -9223372036854775808 ≤ n) (h1 : n ≤ 9223372036854775807) (hl : (Lib.itoa n).length ≤ 100) : parseP (Lib.itoa n) = .ok (intV n) := by
  have h := num_itoa n h0 h1 [] (by decide) (by decide)
  have h2 := value_num (itoa_hd_app n []) 15
  rw [h] at h2
  rw [List.append_nil] at h2
  rw [parse_value (by omega), h2]
  rfl
theorem parse_frac (n : Int) (R : List UInt8) (hR : hd R = 46 ∨ hd R = 101 ∨ hd R = 69) (hl : (Lib.itoa n ++ R).length ≤ 4096) : parseP (Lib.itoa n ++ R) = .error 4 := by
  rw [parse_value hl, value_num (itoa_hd_app n R) 15, num_frac n R hR]
theorem parse_zeros (n : Int) (h : n ≠ 0) (hl : (Lib.itoa n ++ List.replicate 19 48).length ≤ 4096) : parseP (Lib.itoa n ++ List.replicate 19 48) = .error 4 := by
  rw [parse_value hl, value_num (itoa_hd_app n _) 15, num_zeros n h]
theorem itoa_zero : Lib.itoa 0 = [48] := by
  rcases itoa_cases 0 with ⟨h, _⟩ | ⟨_, e⟩
  · omega
  · rw [e]; exact dec_zero
theorem parse_ahead (n : Int) (hl : (48 :: Lib.itoa n).length ≤ 4096) : parseP (48 :: Lib.itoa n) = .error 1 := by
  rw [parse_value hl, value_num (l := 48 :: Lib.itoa n) (.inr ⟨show 48 ≤ 48 from Nat.le_refl _, show 48 ≤ 57 by decide⟩) 15]
  unfold numP
  rw [show sgn (48 :: Lib.itoa n) = 0 from rfl, List.drop_zero]
  unfold digN
  rw [if_pos (show hd (48 :: Lib.itoa n) = 48 from rfl), show (48 :: Lib.itoa n).drop 1 = Lib.itoa n from rfl]
  rcases itoa_hd n with h | h
  · rw [if_neg (by omega)]
    show (match numEnd (48 :: Lib.itoa n) (0 + 1) with | .error e => .error e | .ok r => if skip r.2 = [] then .ok r.1 else .error 1) = Except.error 1
    unfold numEnd
    rw [show (48 :: Lib.itoa n).drop (0 + 1) = Lib.itoa n from rfl, if_neg (by omega), show (48 :: Lib.itoa n).take (0 + 1) = [48] from rfl, show Lib.parseIntB 64 [48] = .ok 0 from by kernel_rfl]
    show (if skip (Lib.itoa n) = [] then Except.ok (intV 0) else .error 1) = _
    rw [skip_hd (by omega), if_neg (itoa_ne n)]
  · rw [if_pos h]
end Go.Proofs.YtnkoblhdbccbeaaGreatDoor

namespace Go.Proofs.YtnkoblhdbccbeaaGreatDoor
open Go.RowKit

/-- a value in a list: what it is, where its list and its fields lie. -/
structure El where
  v : V
  l : Value
  f : Value
/-- a field. -/
structure Fl where
  name : ByteArray
  v : V
  l : Value
  f : Value
def El.enc (e : El) : List Value := [.int .i64 e.v.kind, .int .i64 e.v.num, .string e.v.text, e.l, e.f]
def Fl.enc (e : Fl) : List Value := [.string e.name, .int .i64 e.v.kind, .int .i64 e.v.num, .string e.v.text, e.l, e.f]
def Fl.pair (e : Fl) : ByteArray × V := (e.name, e.v)
def encEs (es : List El) : List Value := es.flatMap El.enc
def encFs (fs : List Fl) : List Value := fs.flatMap Fl.enc

/-- a slice that begins at the head of a row; its block is one of those that are let be. -/
def RowAt (ok : Nat → Prop) (W : World) (t k : Nat) (s : Value) (n : Nat) (xs : List Value) : Prop :=
  W.ownsRow 0 t k s n xs ∧ n ≤ 1000000 ∧ ∀ b, s.ownBlock = some b → ok b
/-- a value's list and fields, so deep. -/
def Rep (ok : Nat → Prop) : Nat → World → V → Value → Value → Prop
  | 0, _, v, l, f => v.list = [] ∧ v.fields = [] ∧ l = .slice none 0 0 ∧ f = .slice none 0 0
  | n + 1, W, v, l, f =>
    (∃ es : List El, es.map El.v = v.list ∧ RowAt ok W 31 5 l es.length (encEs es) ∧ ∀ e ∈ es, Rep ok n W e.v e.l e.f) ∧
    (∃ fs : List Fl, fs.map Fl.pair = v.fields ∧ RowAt ok W 52 6 f fs.length (encFs fs) ∧ ∀ e ∈ fs, Rep ok n W e.v e.l e.f)
/-- wherever it lies. -/
def Lies (n : Nat) (W : World) (v : V) (l f : Value) : Prop := Rep (fun _ => True) n W v l f

theorem lt_of_cell {w : World} {a : Addr} {v : Value} (h : w.cell? a = some v) : a.block < w.heap.size := by
  rcases Nat.lt_or_ge a.block w.heap.size with h' | h'
  · exact h'
  · simp [World.cell?, Array.getElem?_eq_none h'] at h
theorem lt_of_heap {w : World} {b : Nat} {o : Obj} (h : w.heap[b]? = some o) : b < w.heap.size := (Array.getElem?_eq_some_iff.1 h).1

section
variable {ok ok' : Nat → Prop} {W W' : World} {t k n : Nat} {s : Value} {xs : List Value}
theorem ownsRow_move {base : Nat} (hm : ∀ b, s.ownBlock = some b → b < W.heap.size → base ≤ b ∧ W'.heap[b]? = W.heap[b]?) {base0 : Nat} (h : W.ownsRow base0 t k s n xs) : W'.ownsRow base t k s n xs := by
  refine ⟨h.1, ?_⟩
  rcases h.2 with hn | ⟨g, cap, cur, rfl, hb, hgg, rest⟩
  · exact .inl hn
  · obtain ⟨h1, h2⟩ := hm g rfl (lt_of_heap hgg)
    exact .inr ⟨g, cap, cur, rfl, h1, h2.trans hgg, rest⟩
theorem RowAt.move (hm : ∀ b, ok b → b < W.heap.size → ok' b ∧ W'.heap[b]? = W.heap[b]?) (h : RowAt ok W t k s n xs) : RowAt ok' W' t k s n xs := by
  refine ⟨ownsRow_move (fun b hb hl => ⟨Nat.zero_le _, (hm b (h.2.2 b hb) hl).2⟩) h.1, h.2.1, fun b hb => (hm b (h.2.2 b hb) (h.1.lt b hb).2).1⟩
theorem RowAt.slice (h : RowAt ok W t k s n xs) : ∃ a c, s = .slice a n c := by
  rcases h.1.2 with ⟨rfl, rfl⟩ | ⟨g, cap, cur, rfl, _⟩
  · exact ⟨_, _, rfl⟩
  · exact ⟨_, _, rfl⟩
theorem RowAt.nil : RowAt ok W t k (.slice none 0 0) 0 [] := ⟨World.ownsRow_nil _ _ _ _, Nat.zero_le _, fun b hb => by cases hb⟩
/-- what a row with something in it is. -/
theorem RowAt.cells (h : RowAt ok W t k s n xs) (hn : 0 < n) : ∃ b c, s = .slice (some ⟨b, 0, none⟩) n c ∧ b < W.heap.size ∧ ok b ∧ n ≤ c ∧ c ≤ 9223372036854775807 ∧ ∀ j u, xs[j]? = some u → W.cell? ⟨b, j, none⟩ = some u := by
  rcases h.1.2 with ⟨rfl, rfl⟩ | ⟨g, cap, cur, rfl, hb, hg, h1, h2, h3, h4⟩
  · omega
  · refine ⟨g, cap, rfl, lt_of_heap hg, h.2.2 g rfl, h1, by unfold maxLen at h2; omega, fun j u hj => ?_⟩
    have := h.1.cells (g := g) rfl j u hj
    rwa [Addr.add_lit, Nat.zero_add] at this
end

theorem Rep.move {ok ok' : Nat → Prop} {W W' : World} (hm : ∀ b, ok b → b < W.heap.size → ok' b ∧ W'.heap[b]? = W.heap[b]?) : ∀ {n : Nat} {v : V} {l f : Value}, Rep ok n W v l f → Rep ok' n W' v l f
  | 0, _, _, _, h => h
  | _n + 1, _, _, _, ⟨⟨es, e1, e2, e3⟩, ⟨fs, f1, f2, f3⟩⟩ =>
    ⟨⟨es, e1, e2.move hm, fun e he => Rep.move hm (e3 e he)⟩, ⟨fs, f1, f2.move hm, fun e he => Rep.move hm (f3 e he)⟩⟩
theorem Rep.below {ok : Nat → Prop} {W W' : World} (hb : Below W.heap.size W W') {n : Nat} {v : V} {l f : Value} (h : Rep ok n W v l f) : Rep ok n W' v l f :=
  h.move fun b hk hl => ⟨hk, hb.block b hl⟩
theorem Rep.lies {ok : Nat → Prop} {W : World} {n : Nat} {v : V} {l f : Value} (h : Rep ok n W v l f) : Lies n W v l f := h.move fun _ _ _ => ⟨trivial, rfl⟩
theorem Lies.below {W W' : World} (hb : Below W.heap.size W W') {n : Nat} {v : V} {l f : Value} (h : Lies n W v l f) : Lies n W' v l f := Rep.below hb h
theorem Rep.up {ok : Nat → Prop} {W : World} : ∀ {n : Nat} {v : V} {l f : Value}, Rep ok n W v l f → Rep ok (n + 1) W v l f
  | 0, v, l, f, ⟨h1, h2, h3, h4⟩ => by
    subst h3 h4
    exact ⟨⟨[], h1.symm, RowAt.nil, fun e he => by cases he⟩, ⟨[], h2.symm, RowAt.nil, fun e he => by cases he⟩⟩
  | n + 1, _, _, _, ⟨⟨es, e1, e2, e3⟩, ⟨fs, f1, f2, f3⟩⟩ =>
    ⟨⟨es, e1, e2, fun e he => Rep.up (e3 e he)⟩, ⟨fs, f1, f2, fun e he => Rep.up (f3 e he)⟩⟩
theorem Rep.le {ok : Nat → Prop} {W : World} {n m : Nat} {v : V} {l f : Value} (h : Rep ok n W v l f) (hm : n ≤ m) : Rep ok m W v l f := by
  induction hm with
  | refl => exact h
  | step _ ih => exact ih.up
theorem Rep.slices {ok : Nat → Prop} {W : World} {n : Nat} {v : V} {l f : Value} (h : Rep ok n W v l f) : ∃ al cl af cf, l = .slice al v.list.length cl ∧ f = .slice af v.fields.length cf := by
  obtain ⟨⟨es, e1, e2, e3⟩, ⟨fs, f1, f2, f3⟩⟩ := h.up
  obtain ⟨a, c, h1⟩ := e2.slice
  obtain ⟨a', c', h2⟩ := f2.slice
  exact ⟨a, c, a', c', by rw [h1, ← e1, List.length_map], by rw [h2, ← f1, List.length_map]⟩

theorem encEs_length : ∀ es : List El, (encEs es).length = es.length * 5
  | [] => rfl
  | e :: es => by
    have ih := encEs_length es
    unfold encEs at ih ⊢
    rw [List.flatMap_cons, List.length_append, ih, List.length_cons]
    simp [El.enc]; omega
theorem encFs_length : ∀ fs : List Fl, (encFs fs).length = fs.length * 6
  | [] => rfl
  | e :: es => by
    have ih := encFs_length es
    unfold encFs at ih ⊢
    rw [List.flatMap_cons, List.length_append, ih, List.length_cons]
    simp [Fl.enc]; omega
/-- the cells of the value at a place. -/
theorem encEs_at : ∀ (es : List El) (i j : Nat) (e : El) (u : Value), es[i]? = some e → e.enc[j]? = some u → (encEs es)[i * 5 + j]? = some u
  | [], _, _, _, _, h, _ => by simp at h
  | e :: es, 0, j, e', u, h, hu => by
    simp at h; subst h
    have : j < e.enc.length := (List.getElem?_eq_some_iff.1 hu).1
    unfold encEs
    rw [List.flatMap_cons, List.getElem?_append_left (by omega), Nat.zero_mul, Nat.zero_add]; exact hu
  | e :: es, i + 1, j, e', u, h, hu => by
    have ih := encEs_at es i j e' u (by simpa using h) hu
    unfold encEs at ih ⊢
    rw [List.flatMap_cons, List.getElem?_append_right (by simp [El.enc]; omega)]
    rw [← ih]; congr 1; simp [El.enc]; omega
theorem encFs_at : ∀ (es : List Fl) (i j : Nat) (e : Fl) (u : Value), es[i]? = some e → e.enc[j]? = some u → (encFs es)[i * 6 + j]? = some u
  | [], _, _, _, _, h, _ => by simp at h
  | e :: es, 0, j, e', u, h, hu => by
    simp at h; subst h
    have : j < e.enc.length := (List.getElem?_eq_some_iff.1 hu).1
    unfold encFs
    rw [List.flatMap_cons, List.getElem?_append_left (by omega), Nat.zero_mul, Nat.zero_add]; exact hu
  | e :: es, i + 1, j, e', u, h, hu => by
    have ih := encFs_at es i j e' u (by simpa using h) hu
    unfold encFs at ih ⊢
    rw [List.flatMap_cons, List.getElem?_append_right (by simp [Fl.enc]; omega)]
    rw [← ih]; congr 1; simp [Fl.enc]; omega
/-- the five cells of the value at place i of a row. -/
theorem RowAt.el {ok : Nat → Prop} {W : World} {t b c n : Nat} {es : List El} (h : RowAt ok W t 5 (.slice (some ⟨b, 0, none⟩) n c) n (encEs es)) {i : Nat} {e : El} (he : es[i]? = some e) :
    W.cell? ⟨b, i * 5, none⟩ = some (.int .i64 e.v.kind) ∧ W.cell? ⟨b, i * 5 + 1, none⟩ = some (.int .i64 e.v.num) ∧ W.cell? ⟨b, i * 5 + 2, none⟩ = some (.string e.v.text) ∧ W.cell? ⟨b, i * 5 + 3, none⟩ = some e.l ∧ W.cell? ⟨b, i * 5 + 4, none⟩ = some e.f := by
  have hc : ∀ j u, (encEs es)[j]? = some u → W.cell? ⟨b, j, none⟩ = some u := fun j u hj => by
    have := h.1.cells (g := b) rfl j u hj
    rwa [Addr.add_lit, Nat.zero_add] at this
  exact ⟨hc _ _ (encEs_at es i 0 e _ he rfl), hc _ _ (encEs_at es i 1 e _ he rfl), hc _ _ (encEs_at es i 2 e _ he rfl), hc _ _ (encEs_at es i 3 e _ he rfl), hc _ _ (encEs_at es i 4 e _ he rfl)⟩
theorem RowAt.fl {ok : Nat → Prop} {W : World} {t b c n : Nat} {es : List Fl} (h : RowAt ok W t 6 (.slice (some ⟨b, 0, none⟩) n c) n (encFs es)) {i : Nat} {e : Fl} (he : es[i]? = some e) :
    W.cell? ⟨b, i * 6, none⟩ = some (.string e.name) ∧ W.cell? ⟨b, i * 6 + 1, none⟩ = some (.int .i64 e.v.kind) ∧ W.cell? ⟨b, i * 6 + 2, none⟩ = some (.int .i64 e.v.num) ∧ W.cell? ⟨b, i * 6 + 3, none⟩ = some (.string e.v.text) ∧ W.cell? ⟨b, i * 6 + 4, none⟩ = some e.l ∧ W.cell? ⟨b, i * 6 + 5, none⟩ = some e.f := by
  have hc : ∀ j u, (encFs es)[j]? = some u → W.cell? ⟨b, j, none⟩ = some u := fun j u hj => by
    have := h.1.cells (g := b) rfl j u hj
    rwa [Addr.add_lit, Nat.zero_add] at this
  exact ⟨hc _ _ (encFs_at es i 0 e _ he rfl), hc _ _ (encFs_at es i 1 e _ he rfl), hc _ _ (encFs_at es i 2 e _ he rfl), hc _ _ (encFs_at es i 3 e _ he rfl), hc _ _ (encFs_at es i 4 e _ he rfl), hc _ _ (encFs_at es i 5 e _ he rfl)⟩
end Go.Proofs.YtnkoblhdbccbeaaGreatDoor

namespace Go.Proofs.YtnkoblhdbccbeaaGreatDoor
open Go.RowKit

theorem infoV : (Tryz.prog.info? 31).map (fun i => (i.zero, i.size, i.bytes)) = some (some (.agg #[.int .i64 0, .int .i64 0, .string ⟨#[]⟩, .slice none 0 0, .slice none 0 0]), 5, 80) := by kernel_rfl
theorem infoF : (Tryz.prog.info? 52).map (fun i => (i.zero, i.size, i.bytes)) = some (some (.agg #[.string ⟨#[]⟩, .int .i64 0, .int .i64 0, .string ⟨#[]⟩, .slice none 0 0, .slice none 0 0]), 6, 96) := by kernel_rfl

theorem make_rows {t e : TypeId} {z : Value} {size bytes : Nat} (ht : Tryz.prog.underlying t = some (.slice e)) (hinfo : (Tryz.prog.info? e).map (fun i => (i.zero, i.size, i.bytes)) = some (some z, size, bytes)) (n : Nat) (hb : bytes * n ≤ 281474976710656) (h63 : n ≤ 9223372036854775807) (w : World) :
    (Instr.makeSlice t (.int .i64 (n : Int)) (.int .i64 (n : Int))).run Tryz.prog w = .ok (.slice (some ⟨w.heap.size, 0, none⟩) n n) (w.alloc (.cells (madeCells z.cells (n * size)) e)) := by
  obtain ⟨i, hi, hzz⟩ := Option.map_eq_some_iff.1 hinfo
  simp only [Prod.mk.injEq] at hzz
  obtain ⟨hz, hs, hby⟩ := hzz
  subst hs hby
  have hb' : (i.bytes : Int) * (n : Int) ≤ 281474976710656 := by
    have h : ((i.bytes * n : Nat) : Int) ≤ 281474976710656 := by omega
    rwa [Int.natCast_mul] at h
  have hr := run_make (P := Tryz.prog) w t e i z ht hi hz .i64 .i64 n n (by omega) (Int.le_refl _) hb' (by omega)
  simpa only [Int.toNat_natCast] using hr

section
variable {W : World} {B t : Nat} {fr : Nat × Nat} {cur : Array Value} {i : Nat}
theorem set5_eq (h : i + 5 ≤ cur.size) (a0 a1 a2 a3 a4 : Value) : (((((cur.setIfInBounds i a0).setIfInBounds (i + 1) a1).setIfInBounds (i + 2) a2).setIfInBounds (i + 3) a3).setIfInBounds (i + 4) a4).toList = cur.toList.take i ++ [a0, a1, a2, a3, a4] ++ cur.toList.drop (i + 5) := by
  have hl : i + 5 ≤ cur.toList.length := by simpa using h
  simp only [Array.toList_setIfInBounds]
  have s1 := list_seg_step cur.toList i a0 [a1, a2, a3, a4] (by simpa using hl)
  have s2 := list_seg_step (cur.toList.set i a0) (i + 1) a1 [a2, a3, a4] (by simp; omega)
  have s3 := list_seg_step ((cur.toList.set i a0).set (i + 1) a1) (i + 2) a2 [a3, a4] (by simp; omega)
  have s4 := list_seg_step (((cur.toList.set i a0).set (i + 1) a1).set (i + 2) a2) (i + 3) a3 [a4] (by simp; omega)
  have s5 := list_seg_step ((((cur.toList.set i a0).set (i + 1) a1).set (i + 2) a2).set (i + 3) a3) (i + 4) a4 [] (by simp; omega)
  simp only [List.length_cons, List.length_nil, Nat.add_assoc, Nat.reduceAdd, List.append_nil, List.take_append_drop] at s1 s2 s3 s4 s5
  rw [s5, s4, s3, s2, s1]
theorem set6_eq (h : i + 6 ≤ cur.size) (a0 a1 a2 a3 a4 a5 : Value) : ((((((cur.setIfInBounds i a0).setIfInBounds (i + 1) a1).setIfInBounds (i + 2) a2).setIfInBounds (i + 3) a3).setIfInBounds (i + 4) a4).setIfInBounds (i + 5) a5).toList = cur.toList.take i ++ [a0, a1, a2, a3, a4, a5] ++ cur.toList.drop (i + 6) := by
  have hl : i + 6 ≤ cur.toList.length := by simpa using h
  simp only [Array.toList_setIfInBounds]
  have s1 := list_seg_step cur.toList i a0 [a1, a2, a3, a4, a5] (by simpa using hl)
  have s2 := list_seg_step (cur.toList.set i a0) (i + 1) a1 [a2, a3, a4, a5] (by simp; omega)
  have s3 := list_seg_step ((cur.toList.set i a0).set (i + 1) a1) (i + 2) a2 [a3, a4, a5] (by simp; omega)
  have s4 := list_seg_step (((cur.toList.set i a0).set (i + 1) a1).set (i + 2) a2) (i + 3) a3 [a4, a5] (by simp; omega)
  have s5 := list_seg_step ((((cur.toList.set i a0).set (i + 1) a1).set (i + 2) a2).set (i + 3) a3) (i + 4) a4 [a5] (by simp; omega)
  have s6 := list_seg_step (((((cur.toList.set i a0).set (i + 1) a1).set (i + 2) a2).set (i + 3) a3).set (i + 4) a4) (i + 5) a5 [] (by simp; omega)
  simp only [List.length_cons, List.length_nil, Nat.add_assoc, Nat.reduceAdd, List.append_nil, List.take_append_drop] at s1 s2 s3 s4 s5 s6
  rw [s6, s5, s4, s3, s2, s1]
theorem setCell_row (hg : W.heap[B]? = some (.cells cur t fr)) (v : Value) : (W.setCell ⟨B, i, none⟩ v).heap[B]? = some (.cells (cur.setIfInBounds i v) t fr) := by
  rw [setCell_eq_setRow W B i cur t fr v hg]
  exact setRow_heap W B cur _ t fr hg
/-- five cells of a row, written one behind the other. -/
theorem set5 (hg : W.heap[B]? = some (.cells cur t fr)) (h : i + 5 ≤ cur.size) (a0 a1 a2 a3 a4 : Value) :
    (((((W.setCell ⟨B, i, none⟩ a0).setCell ⟨B, i + 1, none⟩ a1).setCell ⟨B, i + 2, none⟩ a2).setCell ⟨B, i + 3, none⟩ a3).setCell ⟨B, i + 4, none⟩ a4).heap[B]? = some (.cells (cur.toList.take i ++ [a0, a1, a2, a3, a4] ++ cur.toList.drop (i + 5)).toArray t fr) := by
  rw [setCell_row (setCell_row (setCell_row (setCell_row (setCell_row hg a0) a1) a2) a3) a4, ← set5_eq h]
theorem set6 (hg : W.heap[B]? = some (.cells cur t fr)) (h : i + 6 ≤ cur.size) (a0 a1 a2 a3 a4 a5 : Value) :
    ((((((W.setCell ⟨B, i, none⟩ a0).setCell ⟨B, i + 1, none⟩ a1).setCell ⟨B, i + 2, none⟩ a2).setCell ⟨B, i + 3, none⟩ a3).setCell ⟨B, i + 4, none⟩ a4).setCell ⟨B, i + 5, none⟩ a5).heap[B]? = some (.cells (cur.toList.take i ++ [a0, a1, a2, a3, a4, a5] ++ cur.toList.drop (i + 6)).toArray t fr) := by
  rw [setCell_row (setCell_row (setCell_row (setCell_row (setCell_row (setCell_row hg a0) a1) a2) a3) a4) a5, ← set6_eq h]
theorem cell_row (hg : W.heap[B]? = some (.cells cur t fr)) (h : i < cur.size) : ∃ v, W.cell? ⟨B, i, none⟩ = some v := ⟨cur[i], by simp [World.cell?, hg, h]⟩
theorem frozen_row (hg : W.heap[B]? = some (.cells cur t (0, 0))) (j : Nat) : W.frozen? ⟨B, j, none⟩ = false := by simp [World.frozen?, hg]
end

theorem heap_setCell_ne (W : World) (a : Addr) (v : Value) {k : Nat} (h : k ≠ a.block) : (W.setCell a v).heap[k]? = W.heap[k]? := Below.heap_setCell W a v k h

theorem encEs_append (xs ys : List El) : encEs (xs ++ ys) = encEs xs ++ encEs ys := List.flatMap_append
theorem encFs_append (xs ys : List Fl) : encFs (xs ++ ys) = encFs xs ++ encFs ys := List.flatMap_append

/-- what a copy's row is while it is made: so many are done. -/
structure PartV (W : World) (B n k : Nat) (ds : List El) : Prop where
  len : ds.length = k
  row : ∃ cur, W.heap[B]? = some (.cells cur 31 (0, 0)) ∧ cur.size = n * 5 ∧ cur.toList.take (k * 5) = encEs ds

theorem PartV.step {W : World} {B n k : Nat} {ds : List El} (h : PartV W B n k ds) (hk : k < n) (v : V) (l f : Value) :
    PartV (((((W.setCell ⟨B, k * 5, none⟩ (.int .i64 v.kind)).setCell ⟨B, k * 5 + 1, none⟩ (.int .i64 v.num)).setCell ⟨B, k * 5 + 2, none⟩ (.string v.text)).setCell ⟨B, k * 5 + 3, none⟩ l).setCell ⟨B, k * 5 + 4, none⟩ f) B n (k + 1) (ds ++ [⟨v, l, f⟩]) := by
  obtain ⟨hl, cur, h1, h2, h3⟩ := h
  refine ⟨by simp [hl], _, set5 h1 (by omega) _ _ _ _ _, ?_, ?_⟩
  · simp; omega
  · rw [h3, encEs_append]
    have e : (encEs ds).length = k * 5 := by rw [encEs_length, hl]
    have e2 : (encEs ds ++ [Value.int .i64 v.kind, .int .i64 v.num, .string v.text, l, f]).length = (k + 1) * 5 := by rw [List.length_append, e]; simp; omega
    show List.take ((k + 1) * 5) (encEs ds ++ [Value.int .i64 v.kind, .int .i64 v.num, .string v.text, l, f] ++ cur.toList.drop (k * 5 + 5)) = _
    rw [← e2, List.take_left]
    rfl
theorem PartV.keep {W W' : World} {B n k : Nat} {ds : List El} (h : PartV W B n k ds) (hb : W'.heap[B]? = W.heap[B]?) : PartV W' B n k ds := by
  obtain ⟨hl, cur, h1, h2, h3⟩ := h
  exact ⟨hl, cur, hb.trans h1, h2, h3⟩
theorem PartV.done {W : World} {B n : Nat} {ds : List El} (h : PartV W B n n ds) (hn : n ≤ 1000000) {ok : Nat → Prop} (hB : ok B) : RowAt ok W 31 5 (.slice (some ⟨B, 0, none⟩) n n) ds.length (encEs ds) := by
  obtain ⟨hl, cur, h1, h2, h3⟩ := h
  subst hl
  exact ⟨⟨encEs_length ds, .inr ⟨B, _, cur, rfl, Nat.zero_le _, h1, Nat.le_refl _, by unfold maxLen; omega, h2, h3⟩⟩, hn, fun b hb => by cases hb; exact hB⟩

/-- a copy of a list, in memory of its own. -/
def CopyL (m : Nat) (w w' : World) (es : List El) (l' : Value) : Prop :=
  ∃ es' : List El, es'.map El.v = es.map El.v ∧ RowAt (fun k => w.heap.size ≤ k) w' 31 5 l' es'.length (encEs es') ∧ ∀ e ∈ es', Rep (fun k => w.heap.size ≤ k) m w' e.v e.l e.f

end Go.Proofs.YtnkoblhdbccbeaaGreatDoor

namespace Go.Proofs.YtnkoblhdbccbeaaGreatDoor
open Go.RowKit

/-- what a copy's row is while it is made: so many are done. -/
structure PartF (W : World) (B n k : Nat) (ds : List Fl) : Prop where
  len : ds.length = k
  row : ∃ cur, W.heap[B]? = some (.cells cur 52 (0, 0)) ∧ cur.size = n * 6 ∧ cur.toList.take (k * 6) = encFs ds

theorem PartF.step {W : World} {B n k : Nat} {ds : List Fl} (h : PartF W B n k ds) (hk : k < n) (p : ByteArray) (v : V) (l f : Value) :
    PartF ((((((W.setCell ⟨B, k * 6, none⟩ (.string p)).setCell ⟨B, k * 6 + 1, none⟩ (.int .i64 v.kind)).setCell ⟨B, k * 6 + 2, none⟩ (.int .i64 v.num)).setCell ⟨B, k * 6 + 3, none⟩ (.string v.text)).setCell ⟨B, k * 6 + 4, none⟩ l).setCell ⟨B, k * 6 + 5, none⟩ f) B n (k + 1) (ds ++ [⟨p, v, l, f⟩]) := by
  obtain ⟨hl, cur, h1, h2, h3⟩ := h
  refine ⟨by simp [hl], _, set6 h1 (by omega) _ _ _ _ _ _, ?_, ?_⟩
  · simp; omega
  · rw [h3, encFs_append]
    have e : (encFs ds).length = k * 6 := by rw [encFs_length, hl]
    have e2 : (encFs ds ++ [Value.string p, .int .i64 v.kind, .int .i64 v.num, .string v.text, l, f]).length = (k + 1) * 6 := by rw [List.length_append, e]; simp; omega
    show List.take ((k + 1) * 6) (encFs ds ++ [Value.string p, .int .i64 v.kind, .int .i64 v.num, .string v.text, l, f] ++ cur.toList.drop (k * 6 + 6)) = _
    rw [← e2, List.take_left]
    rfl
theorem PartF.keep {W W' : World} {B n k : Nat} {ds : List Fl} (h : PartF W B n k ds) (hb : W'.heap[B]? = W.heap[B]?) : PartF W' B n k ds := by
  obtain ⟨hl, cur, h1, h2, h3⟩ := h
  exact ⟨hl, cur, hb.trans h1, h2, h3⟩
theorem PartF.done {W : World} {B n : Nat} {ds : List Fl} (h : PartF W B n n ds) (hn : n ≤ 1000000) {ok : Nat → Prop} (hB : ok B) : RowAt ok W 52 6 (.slice (some ⟨B, 0, none⟩) n n) ds.length (encFs ds) := by
  obtain ⟨hl, cur, h1, h2, h3⟩ := h
  subst hl
  exact ⟨⟨encFs_length ds, .inr ⟨B, _, cur, rfl, Nat.zero_le _, h1, Nat.le_refl _, by unfold maxLen; omega, h2, h3⟩⟩, hn, fun b hb => by cases hb; exact hB⟩

theorem PartF.cells {W : World} {B n k : Nat} {ds : List Fl} (h : PartF W B n k ds) (hk : k < n) : ∃ o0 o1 o2 o3 o4 o5, W.cell? ⟨B, k * 6, none⟩ = some o0 ∧ W.cell? ⟨B, k * 6 + 1, none⟩ = some o1 ∧ W.cell? ⟨B, k * 6 + 2, none⟩ = some o2 ∧ W.cell? ⟨B, k * 6 + 3, none⟩ = some o3 ∧ W.cell? ⟨B, k * 6 + 4, none⟩ = some o4 ∧ W.cell? ⟨B, k * 6 + 5, none⟩ = some o5 ∧ ∀ j, W.frozen? ⟨B, j, none⟩ = false := by
  obtain ⟨cur, h1, h2, h3⟩ := h.row
  obtain ⟨o0, c0⟩ := cell_row h1 (i := k * 6) (by omega)
  obtain ⟨o1, c1⟩ := cell_row h1 (i := k * 6 + 1) (by omega)
  obtain ⟨o2, c2⟩ := cell_row h1 (i := k * 6 + 2) (by omega)
  obtain ⟨o3, c3⟩ := cell_row h1 (i := k * 6 + 3) (by omega)
  obtain ⟨o4, c4⟩ := cell_row h1 (i := k * 6 + 4) (by omega)
  obtain ⟨o5, c5⟩ := cell_row h1 (i := k * 6 + 5) (by omega)
  exact ⟨o0, o1, o2, o3, o4, o5, c0, c1, c2, c3, c4, c5, frozen_row h1⟩
/-- a copy of fields: its row is the first new block, all that is in it lies behind. -/
def CopyF (m : Nat) (w w' : World) (es : List Fl) (l' : Value) : Prop :=
  ∃ es' : List Fl, es'.map Fl.pair = es.map Fl.pair ∧ RowAt (fun k => k = w.heap.size) w' 52 6 l' es'.length (encFs es') ∧ (∀ a m c, l' = .slice a m c → c = m) ∧ ∀ e ∈ es', Rep (fun k => w.heap.size < k) m w' e.v e.l e.f

end Go.Proofs.YtnkoblhdbccbeaaGreatDoor

namespace Go.Proofs.YtnkoblhdbccbeaaGreatDoor
open Go.RowKit

theorem bcell {W w1 : World} (hb : Below W.heap.size W w1) : (∀ b o, b < W.heap.size → w1.cell? ⟨b, o, none⟩ = W.cell? ⟨b, o, none⟩) ∧ (∀ b o, b < W.heap.size → w1.frozen? ⟨b, o, none⟩ = W.frozen? ⟨b, o, none⟩) :=
  ⟨fun b o h => hb.cell (p := ⟨b, o, none⟩) h, fun b o h => hb.frozen (p := ⟨b, o, none⟩) h⟩

theorem row5 {W : World} {B t : Nat} {a0 a1 a2 a3 a4 : Value} (h : W.heap[B]? = some (.cells #[a0, a1, a2, a3, a4] t (0, 0))) :
    W.cell? ⟨B, 0, none⟩ = some a0 ∧ W.cell? ⟨B, 1, none⟩ = some a1 ∧ W.cell? ⟨B, 2, none⟩ = some a2 ∧ W.cell? ⟨B, 3, none⟩ = some a3 ∧ W.cell? ⟨B, 4, none⟩ = some a4 ∧ ∀ j, W.frozen? ⟨B, j, none⟩ = false := by
  simp [World.cell?, World.frozen?, h]
theorem row6 {W : World} {B t : Nat} {a0 a1 a2 a3 a4 a5 : Value} (h : W.heap[B]? = some (.cells #[a0, a1, a2, a3, a4, a5] t (0, 0))) :
    W.cell? ⟨B, 0, none⟩ = some a0 ∧ W.cell? ⟨B, 1, none⟩ = some a1 ∧ W.cell? ⟨B, 2, none⟩ = some a2 ∧ W.cell? ⟨B, 3, none⟩ = some a3 ∧ W.cell? ⟨B, 4, none⟩ = some a4 ∧ W.cell? ⟨B, 5, none⟩ = some a5 ∧ ∀ j, W.frozen? ⟨B, j, none⟩ = false := by
  simp [World.cell?, World.frozen?, h]
theorem heap_alloc2_old {w : World} {o1 o2 : Obj} : ((w.alloc o1).alloc o2).heap[w.heap.size]? = some o1 := by
  rw [Below.heap_alloc (w.alloc o1) o2 w.heap.size (by simp)]; exact heap_alloc_new w _
theorem heap_alloc2_new {w : World} {o1 o2 : Obj} : ((w.alloc o1).alloc o2).heap[w.heap.size + 1]? = some o2 := by
  have := heap_alloc_new (w.alloc o1) o2
  simpa using this

/-- a copy of a value: its fields' row is apart from all else. -/
def CopyV (m : Nat) (w w' : World) (v : V) (l' f' : Value) : Prop :=
  ∃ B, w.heap.size ≤ B ∧ (∃ es : List El, es.map El.v = v.list ∧ RowAt (fun k => w.heap.size ≤ k ∧ k ≠ B) w' 31 5 l' es.length (encEs es) ∧ ∀ e ∈ es, Rep (fun k => w.heap.size ≤ k ∧ k ≠ B) m w' e.v e.l e.f) ∧
    (∃ fs : List Fl, fs.map Fl.pair = v.fields ∧ RowAt (fun k => k = B) w' 52 6 f' fs.length (encFs fs) ∧ (∀ a n c, f' = .slice a n c → c = n) ∧ ∀ e ∈ fs, Rep (fun k => w.heap.size ≤ k ∧ k ≠ B) m w' e.v e.l e.f)
theorem CopyV.rep {m : Nat} {w w' : World} {v : V} {l' f' : Value} (h : CopyV m w w' v l' f') : Rep (fun k => w.heap.size ≤ k) (m + 1) w' v l' f' := by
  obtain ⟨B, hB, ⟨es, e1, e2, e3⟩, ⟨fs, f1, f2, _, f3⟩⟩ := h
  exact ⟨⟨es, e1, e2.move fun b hb _ => ⟨hb.1, rfl⟩, fun e he => (e3 e he).move fun b hb _ => ⟨hb.1, rfl⟩⟩, ⟨fs, f1, f2.move fun b hb _ => ⟨by omega, rfl⟩, fun e he => (f3 e he).move fun b hb _ => ⟨hb.1, rfl⟩⟩⟩

end Go.Proofs.YtnkoblhdbccbeaaGreatDoor
