/-
  Numbers as JSON, as plain functions of bytes: what is printed is read. No conditions beyond those stated.
-/
import Derived.Test.YtdcaohnaiepllaaGreatDoorJPure
namespace Go.Proofs.YtdcaohnaiepllaaGreatDoor

def stp (a : Nat) (b : UInt8) : Nat := a * 10 + (b.toNat - 48)
/-- the number that digits are. -/
def val (acc : Nat) (l : List UInt8) : Nat := l.foldl stp acc
theorem val_nil (acc : Nat) : val acc [] = acc := by unfold val; exact List.foldl_nil
theorem val_cons (acc : Nat) (b : UInt8) (t : List UInt8) : val acc (b :: t) = val (stp acc b) t := by unfold val; exact List.foldl_cons ..
theorem stp_eq (a : Nat) (b : UInt8) : stp a b = a * 10 + (b.toNat - 48) := by rw [stp]
theorem val_le (l : List UInt8) : ∀ (acc : Nat), acc ≤ val acc l := by
  induction l with
  | nil => exact fun acc => Nat.le_refl _
  | cons b t ih =>
    intro acc
    rw [val_cons]
    refine Nat.le_trans ?_ (ih _)
    rw [stp_eq]
    omega
theorem val_snoc (l : List UInt8) (b : UInt8) (acc : Nat) : val acc (l ++ [b]) = stp (val acc l) b := by
  unfold val
  rw [List.foldl_append, List.foldl_cons, List.foldl_nil]
theorem val_ok (M : Nat) (hM : M < 18446744073709551616) : ∀ (l : List UInt8) (acc : Nat), (∀ b ∈ l, isDg b) → val acc l ≤ M → Lib.parseUintM M acc l = .ok (val acc l)
  | [], _, _, _ => rfl
  | b :: t, acc, hd, hv => by
    have hb := hd b (by simp)
    rw [val_cons] at hv ⊢
    have h1 := val_le t (stp acc b)
    have h2 := stp_eq acc b
    simp only [Lib.parseUintM]
    rw [if_pos hb, if_neg (by omega), if_neg (by omega), ← h2]
    exact val_ok M hM t _ (fun x hx => hd x (by simp [hx])) hv
theorem val_of_ok (M : Nat) : ∀ (l : List UInt8) (acc u : Nat), (∀ b ∈ l, isDg b) → Lib.parseUintM M acc l = .ok u → acc ≤ M → u = val acc l ∧ u ≤ M
  | [], acc, u, _, h, ha => by
    simp only [Lib.parseUintM] at h
    injection h with h
    subst h
    exact ⟨rfl, ha⟩
  | b :: t, acc, u, hd, h, ha => by
    have hb := hd b (by simp)
    simp only [Lib.parseUintM] at h
    rw [if_pos hb] at h
    split at h
    · cases h
    · split at h
      · cases h
      · rw [val_cons, stp_eq]
        exact val_of_ok M t _ u (fun x hx => hd x (by simp [hx])) h (by omega)

theorem dg_byte (d : Nat) (h : d < 10) : (UInt8.ofNat (48 + d)).toNat = 48 + d := by
  rw [UInt8.toNat_ofNat']; omega
theorem dec_all : ∀ (u : Nat), ∀ b ∈ Lib.decDigits u, isDg b := by
  intro u
  induction u using Nat.strongRecOn with
  | _ u ih =>
    intro b hb
    rw [Lib.decDigits] at hb
    split at hb
    · rename_i h
      rw [List.mem_singleton] at hb
      rw [hb]
      show 48 ≤ _ ∧ _ ≤ 57
      rw [dg_byte u h]; omega
    · rcases List.mem_append.1 hb with hb | hb
      · exact ih (u / 10) (by omega) b hb
      · rw [List.mem_singleton] at hb
        rw [hb]
        show 48 ≤ _ ∧ _ ≤ 57
        rw [dg_byte _ (by omega)]; omega
theorem dec_ne (u : Nat) : Lib.decDigits u ≠ [] := by
  rw [Lib.decDigits]
  split <;> simp
theorem hd_append {a b : List UInt8} (h : a ≠ []) : hd (a ++ b) = hd a := by
  cases a with
  | nil => exact absurd rfl h
  | cons x t => rfl
theorem dec_head : ∀ (u : Nat), u ≠ 0 → 49 ≤ hd (Lib.decDigits u) ∧ hd (Lib.decDigits u) ≤ 57 := by
  intro u
  induction u using Nat.strongRecOn with
  | _ u ih =>
    intro h0
    rw [Lib.decDigits]
    split
    · rename_i h
      show 49 ≤ (UInt8.ofNat (48 + u)).toNat ∧ _
      show _ ∧ (UInt8.ofNat (48 + u)).toNat ≤ 57
      rw [dg_byte u h]; omega
    · rw [hd_append (dec_ne _)]
      exact ih (u / 10) (by omega) (by omega)
theorem dec_zero : Lib.decDigits 0 = [48] := by rw [Lib.decDigits]; rfl
theorem dec_val : ∀ (u : Nat), val 0 (Lib.decDigits u) = u := by
  intro u
  induction u using Nat.strongRecOn with
  | _ u ih =>
    rw [Lib.decDigits]
    split
    · rename_i h
      rw [val_cons, val_nil, stp_eq, dg_byte u h]; omega
    · rw [val_snoc, ih (u / 10) (by omega), stp_eq, dg_byte _ (by omega)]
      omega

theorem digs_append : ∀ (l R : List UInt8), (∀ b ∈ l, isDg b) → ¬ (48 ≤ hd R ∧ hd R ≤ 57) → digs (l ++ R) = l.length
  | [], R, _, h => by
    cases R with
    | nil => rfl
    | cons b t => exact if_neg h
  | b :: t, R, hl, h => by
    have hb := hl b (by simp)
    show (if isDg b then digs (t ++ R) + 1 else 0) = _
    rw [if_pos hb, digs_append t R (fun x hx => hl x (by simp [hx])) h]
    rfl
theorem digN_dec (u : Nat) (R : List UInt8) (h : ¬ (48 ≤ hd R ∧ hd R ≤ 57)) : digN (Lib.decDigits u ++ R) = some (Lib.decDigits u).length := by
  unfold digN
  by_cases h0 : u = 0
  · subst h0
    rw [dec_zero]
    rw [if_pos (show hd ([48] ++ R) = 48 from rfl)]
    exact if_neg (show ¬ (48 ≤ hd (([48] ++ R).drop 1) ∧ hd (([48] ++ R).drop 1) ≤ 57) from h)
  · have hh := dec_head u h0
    have hne : (Lib.decDigits u).length ≠ 0 := fun e => dec_ne u (List.eq_nil_of_length_eq_zero e)
    rw [if_neg (by rw [hd_append (dec_ne u)]; omega), digs_append _ _ (dec_all u) h, if_neg hne]

/-- the sign of a number, and its digits. -/
theorem itoa_cases (n : Int) : (n < 0 ∧ Lib.itoa n = 45 :: Lib.decDigits n.natAbs) ∨ (0 ≤ n ∧ Lib.itoa n = Lib.decDigits n.toNat) := by
  unfold Lib.itoa
  by_cases h : n < 0
  · exact .inl ⟨h, if_pos h⟩
  · exact .inr ⟨by omega, if_neg h⟩
theorem dec_hd_dg (u : Nat) : 48 ≤ hd (Lib.decDigits u) ∧ hd (Lib.decDigits u) ≤ 57 := by
  by_cases h : u = 0
  · subst h; rw [dec_zero]; exact ⟨Nat.le_refl _, by decide⟩
  · have := dec_head u h; omega
theorem itoa_hd (n : Int) : hd (Lib.itoa n) = 45 ∨ (48 ≤ hd (Lib.itoa n) ∧ hd (Lib.itoa n) ≤ 57) := by
  rcases itoa_cases n with ⟨_, e⟩ | ⟨_, e⟩
  · rw [e]; exact .inl rfl
  · rw [e]; exact .inr (dec_hd_dg _)
theorem itoa_ne (n : Int) : Lib.itoa n ≠ [] := by
  rcases itoa_cases n with ⟨_, e⟩ | ⟨_, e⟩
  · rw [e]; simp
  · rw [e]; exact dec_ne _
theorem cons_hd {l : List UInt8} (h : l ≠ []) : ∃ b t, l = b :: t ∧ b.toNat = hd l := by
  cases l with
  | nil => exact absurd rfl h
  | cons b t => exact ⟨b, t, rfl, rfl⟩
theorem skip_hd {l : List UInt8} (h : hd l ≠ 9 ∧ hd l ≠ 10 ∧ hd l ≠ 13 ∧ hd l ≠ 32) : skip l = l := by
  cases l with
  | nil => rfl
  | cons b t =>
    simp only [skip]
    rw [if_neg]
    intro h'
    have h : b.toNat ≠ 9 ∧ b.toNat ≠ 10 ∧ b.toNat ≠ 13 ∧ b.toNat ≠ 32 := h
    rcases h' with e | e | e | e <;> omega

theorem take_app (a b : List UInt8) : (a ++ b).take a.length = a := List.take_left
theorem drop_app (a b : List UInt8) : (a ++ b).drop a.length = b := List.drop_left

/-- digits of a number behind its sign: how many there are. -/
theorem num_shape (n : Int) (R : List UInt8) (h : ¬ (48 ≤ hd R ∧ hd R ≤ 57)) : numP (Lib.itoa n ++ R) = numEnd (Lib.itoa n ++ R) (Lib.itoa n).length := by
  unfold numP
  rcases itoa_cases n with ⟨_, e⟩ | ⟨_, e⟩
  · have hs : sgn (Lib.itoa n ++ R) = 1 := by rw [e]; rfl
    have hd1 : (Lib.itoa n ++ R).drop 1 = Lib.decDigits n.natAbs ++ R := by rw [e]; rfl
    have hl : (Lib.itoa n).length = 1 + (Lib.decDigits n.natAbs).length := by rw [e, List.length_cons]; omega
    rw [hs, hd1, digN_dec _ _ h, hl]
  · have hs : sgn (Lib.itoa n ++ R) = 0 := by
      unfold sgn
      have := dec_hd_dg n.toNat
      rw [hd_append (itoa_ne n), e, if_neg (by omega)]
    rw [hs, List.drop_zero, e, digN_dec _ _ h]
    show numEnd _ (0 + (Lib.decDigits n.toNat).length) = _
    rw [Nat.zero_add]

theorem parse_itoa (n : Int) (h0 : -9223372036854775808 ≤ n) (h1 : n ≤ 9223372036854775807) : Lib.parseIntB 64 (Lib.itoa n) = .ok n := by
  rcases itoa_cases n with ⟨hn, e⟩ | ⟨hn, e⟩
  · rw [e]
    unfold Lib.parseIntB
    simp only
    have hp : Lib.parseUintB 64 (Lib.decDigits n.natAbs) = .ok n.natAbs := by
      unfold Lib.parseUintB
      rw [if_neg (dec_ne _), val_ok _ (by decide) _ _ (dec_all _) (by rw [dec_val]; omega), dec_val]
    rw [if_pos (.inr (by decide)), hp]
    simp only
    rw [if_neg (fun h => h.1 (by decide)), if_neg (fun h => by have := h.2; omega), if_pos (by decide)]
    congr 1
    omega
  · obtain ⟨b, t, hbt, hbh⟩ := cons_hd (dec_ne n.toNat)
    have hdg := dec_hd_dg n.toNat
    have hp : Lib.parseUintB 64 (Lib.decDigits n.toNat) = .ok n.toNat := by
      unfold Lib.parseUintB
      rw [if_neg (dec_ne _), val_ok _ (by decide) _ _ (dec_all _) (by rw [dec_val]; omega), dec_val]
    rw [e, hbt]
    unfold Lib.parseIntB
    simp only
    rw [if_neg (by omega), ← hbt, hp]
    simp only
    rw [if_neg (fun h => by have := h.2; omega), if_neg (fun h => by have := h.1; omega), if_neg (by omega)]
    congr 1
    omega

theorem num_itoa (n : Int) (h0 : -9223372036854775808 ≤ n) (h1 : n ≤ 9223372036854775807) (R : List UInt8) (h : ¬ (48 ≤ hd R ∧ hd R ≤ 57)) (hR : ¬ (hd R = 46 ∨ hd R = 101 ∨ hd R = 69)) : numP (Lib.itoa n ++ R) = .ok (intV n, R) := by
  rw [num_shape n R h]
  unfold numEnd
  rw [drop_app, take_app, if_neg hR, parse_itoa n h0 h1]
theorem num_frac (n : Int) (R : List UInt8) (hR : hd R = 46 ∨ hd R = 101 ∨ hd R = 69) : numP (Lib.itoa n ++ R) = .error 4 := by
  rw [num_shape n R (by omega)]
  unfold numEnd
  rw [drop_app, if_pos hR]

/-- a number that no 64 bits hold. -/
theorem digs_many (u : Nat) (_h : u ≠ 0) : Lib.decDigits u ++ List.replicate 19 48 ≠ [] ∧ (∀ b ∈ Lib.decDigits u ++ List.replicate 19 48, isDg b) ∧ val 0 (Lib.decDigits u ++ List.replicate 19 48) = u * 10000000000000000000 := by
  refine ⟨by simp [dec_ne], fun b hb => ?_, ?_⟩
  · rcases List.mem_append.1 hb with hb | hb
    · exact dec_all u b hb
    · rw [List.eq_of_mem_replicate hb]; exact ⟨by decide, by decide⟩
  · have hz : ∀ (k : Nat) (acc : Nat), val acc (List.replicate k 48) = acc * 10 ^ k := by
      intro k
      induction k with
      | zero => intro acc; rw [Nat.pow_zero, Nat.mul_one]; exact val_nil acc
      | succ k ih =>
        intro acc
        rw [List.replicate_succ, val_cons, ih, stp_eq, Nat.pow_succ, show (48 : UInt8).toNat - 48 = 0 from rfl, Nat.add_zero, Nat.mul_assoc, Nat.mul_comm 10]
    have hv : val 0 (Lib.decDigits u ++ List.replicate 19 48) = val (val 0 (Lib.decDigits u)) (List.replicate 19 48) := by
      unfold val; rw [List.foldl_append]
    rw [hv, dec_val, hz]
theorem uint_many {u : Nat} (h : u ≠ 0) (v : Nat) : Lib.parseUintB 64 (Lib.decDigits u ++ List.replicate 19 48) = .ok v → 9223372036854775808 < v := by
  obtain ⟨h1, h2, h3⟩ := digs_many u h
  unfold Lib.parseUintB
  rw [if_neg h1]
  intro hv
  have := val_of_ok _ _ _ _ h2 hv (Nat.zero_le _)
  rw [h3] at this
  omega
theorem num_zeros (n : Int) (h : n ≠ 0) : numP (Lib.itoa n ++ List.replicate 19 48) = .error 4 := by
  have hd0 : ¬ (48 ≤ hd ([] : List UInt8) ∧ hd ([] : List UInt8) ≤ 57) := by decide
  have hsh : ∃ l : List UInt8, numP (Lib.itoa n ++ List.replicate 19 48) = numEnd l l.length ∧ ∀ v, Lib.parseIntB 64 l ≠ .ok v := by
    rcases itoa_cases n with ⟨hn, e⟩ | ⟨hn, e⟩
    · refine ⟨45 :: (Lib.decDigits n.natAbs ++ List.replicate 19 48), ?_, ?_⟩
      · rw [e]
        unfold numP
        have hu : n.natAbs ≠ 0 := by omega
        obtain ⟨h1, h2, h3⟩ := digs_many n.natAbs hu
        have hh := dec_head n.natAbs hu
        have hdn : digN (Lib.decDigits n.natAbs ++ List.replicate 19 48) = some (Lib.decDigits n.natAbs ++ List.replicate 19 48).length := by
          unfold digN
          rw [if_neg (by rw [hd_append (dec_ne _)]; omega)]
          have := digs_append (Lib.decDigits n.natAbs ++ List.replicate 19 48) [] h2 hd0
          rw [List.append_nil] at this
          rw [this, if_neg (fun e => h1 (List.eq_nil_of_length_eq_zero e))]
        obtain ⟨X, hX⟩ : ∃ X : List UInt8, Lib.decDigits n.natAbs ++ List.replicate 19 48 = X := ⟨_, rfl⟩
        rw [hX] at hdn
        rw [List.cons_append, hX]
        rw [show sgn (45 :: X) = 1 from rfl, List.drop_succ_cons, List.drop_zero, hdn]
        show numEnd _ (1 + _) = _
        rw [List.length_cons, Nat.add_comm]
      · intro v hv
        unfold Lib.parseIntB at hv
        simp only at hv
        rw [if_pos (.inr (by decide))] at hv
        cases hp : Lib.parseUintB 64 (Lib.decDigits n.natAbs ++ List.replicate 19 48) with
        | ok u =>
          rw [hp] at hv
          have := uint_many (show n.natAbs ≠ 0 by omega) u hp
          simp only at hv
          rw [if_neg (fun h => h.1 (by decide)), if_pos ⟨by decide, by omega⟩] at hv
          cases hv
        | «syntax» => rw [hp] at hv; cases hv
        | range => rw [hp] at hv; cases hv
    · refine ⟨Lib.decDigits n.toNat ++ List.replicate 19 48, ?_, ?_⟩
      · rw [e]
        unfold numP
        have hu : n.toNat ≠ 0 := by omega
        obtain ⟨h1, h2, h3⟩ := digs_many n.toNat hu
        have hh := dec_head n.toNat hu
        have hdn : digN (Lib.decDigits n.toNat ++ List.replicate 19 48) = some (Lib.decDigits n.toNat ++ List.replicate 19 48).length := by
          unfold digN
          rw [if_neg (by rw [hd_append (dec_ne _)]; omega)]
          have := digs_append (Lib.decDigits n.toNat ++ List.replicate 19 48) [] h2 hd0
          rw [List.append_nil] at this
          rw [this, if_neg (fun e => h1 (List.eq_nil_of_length_eq_zero e))]
        have hs : sgn (Lib.decDigits n.toNat ++ List.replicate 19 48) = 0 := by
          unfold sgn
          rw [hd_append (dec_ne _), if_neg (by omega)]
        rw [hs, List.drop_zero, hdn]
        show numEnd _ (0 + _) = _
        rw [Nat.zero_add]
      · intro v hv
        have hu : n.toNat ≠ 0 := by omega
        have hh := dec_head n.toNat hu
        obtain ⟨b, t, hbt, hbh⟩ := cons_hd (show Lib.decDigits n.toNat ++ List.replicate 19 48 ≠ [] by simp [dec_ne])
        rw [hd_append (dec_ne _)] at hbh
        rw [hbt] at hv
        unfold Lib.parseIntB at hv
        simp only at hv
        rw [if_neg (by omega), ← hbt] at hv
        cases hp : Lib.parseUintB 64 (Lib.decDigits n.toNat ++ List.replicate 19 48) with
        | ok u =>
          rw [hp] at hv
          have := uint_many hu u hp
          simp only at hv
          rw [if_pos ⟨by omega, by omega⟩] at hv
          cases hv
        | «syntax» => rw [hp] at hv; cases hv
        | range => rw [hp] at hv; cases hv
  obtain ⟨l, e, hno⟩ := hsh
  rw [e]
  unfold numEnd
  rw [List.drop_length, if_neg (by decide), List.take_length]
  cases hp : Lib.parseIntB 64 l with
  | ok v => exact absurd hp (hno v)
  | «syntax» => rfl
  | range => rfl

/-- numbers are read by valueP. -/
theorem value_num {l : List UInt8} (h : hd l = 45 ∨ (48 ≤ hd l ∧ hd l ≤ 57)) (n : Nat) : valueP (n + 1) l = numP l := by
  have hs : skip l = l := skip_hd (by omega)
  simp only [valueP]
  rw [hs, if_pos h]
theorem parse_value {l : List UInt8} (hl : l.length ≤ 4096) : parseP l = match valueP 16 l with | .error e => .error e | .ok r => if skip r.2 = [] then .ok r.1 else .error 1 := by
  unfold parseP
  rw [if_neg (by omega)]
  rfl
theorem itoa_hd_app (n : Int) (R : List UInt8) : hd (Lib.itoa n ++ R) = 45 ∨ (48 ≤ hd (Lib.itoa n ++ R) ∧ hd (Lib.itoa n ++ R) ≤ 57) := by
  rw [hd_append (itoa_ne n)]; exact itoa_hd n
theorem parse_int (n : Int) (h0 : -9223372036854775808 ≤ n) (h1 : n ≤ 9223372036854775807) (hl : (Lib.itoa n).length ≤ 100) : parseP (Lib.itoa n) = .ok (intV n) := by
  have h := num_itoa n h0 h1 [] (by decide) (by decide)
  have h2 := value_num (itoa_hd_app n []) 15
  rw [h] at h2
  rw [List.append_nil] at h2
  rw [parse_value (by omega), h2]
  rfl
theorem parse_frac (n : Int) (R : List UInt8) (hR : hd R = 46 ∨ hd R = 101 ∨ hd R = 69) (hl : (Lib.itoa n ++ R).length ≤ 4096) : parseP (Lib.itoa n ++ R) = .error 4 := by
  rw [parse_value hl, value_num (itoa_hd_app n R) 15, num_frac n R hR]
theorem parse_zeros (n : Int) (h : n ≠ 0) (hl : (Lib.itoa n ++ List.replicate 19 48).length ≤ 4096) : parseP (Lib.itoa n ++ List.replicate 19 48) = .error 4 := by
  rw [parse_value hl, value_num (itoa_hd_app n _) 15, num_zeros n h]
theorem itoa_zero : Lib.itoa 0 = [48] := by
  rcases itoa_cases 0 with ⟨h, _⟩ | ⟨_, e⟩
  · omega
  · rw [e]; exact dec_zero
theorem parse_ahead (n : Int) (hl : (48 :: Lib.itoa n).length ≤ 4096) : parseP (48 :: Lib.itoa n) = .error 1 := by
  rw [parse_value hl, value_num (l := 48 :: Lib.itoa n) (.inr ⟨show 48 ≤ 48 from Nat.le_refl _, show 48 ≤ 57 by decide⟩) 15]
  unfold numP
  rw [show sgn (48 :: Lib.itoa n) = 0 from rfl, List.drop_zero]
  unfold digN
  rw [if_pos (show hd (48 :: Lib.itoa n) = 48 from rfl), show (48 :: Lib.itoa n).drop 1 = Lib.itoa n from rfl]
  rcases itoa_hd n with h | h
  · rw [if_neg (by omega)]
    show (match numEnd (48 :: Lib.itoa n) (0 + 1) with | .error e => .error e | .ok r => if skip r.2 = [] then .ok r.1 else .error 1) = Except.error 1
    unfold numEnd
    rw [show (48 :: Lib.itoa n).drop (0 + 1) = Lib.itoa n from rfl, if_neg (by omega), show (48 :: Lib.itoa n).take (0 + 1) = [48] from rfl, show Lib.parseIntB 64 [48] = .ok 0 from by kernel_rfl]
    show (if skip (Lib.itoa n) = [] then Except.ok (intV 0) else .error 1) = _
    rw [skip_hd (by omega), if_neg (itoa_ne n)]
  · rw [if_pos h]
end Go.Proofs.YtdcaohnaiepllaaGreatDoor
