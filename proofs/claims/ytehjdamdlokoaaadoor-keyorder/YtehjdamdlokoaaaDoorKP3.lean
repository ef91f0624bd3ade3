/-
  Keys stand in the order of their values, whatever stands behind them: plain. Conditions: as stated.
-/
import Derived.Test.YtehjdamdlokoaaaDoorKP
namespace Go.Proofs.YtehjdamdlokoaaaDoor
open Go.RowKit

theorem cmpB_cons (c d : UInt8) (x y : List UInt8) : cmpB (c :: x) (d :: y) = if c = d then cmpB x y else cmpI (c.toNat : Int) (d.toNat : Int) := by
  by_cases h : c = d
  · subst h; simp [cmpB]
  · have h' : c.toNat ≠ d.toNat := fun e => h (UInt8.toNat_inj.1 e)
    rw [if_neg h]
    simp only [cmpB, cmpI]
    by_cases h1 : c.toNat < d.toNat
    · rw [if_pos h1, if_pos (by omega)]
    · rw [if_neg h1, if_pos (by omega), if_neg (by omega), if_pos (by omega)]
theorem cmpB_same (c : UInt8) (x y : List UInt8) : cmpB (c :: x) (c :: y) = cmpB x y := by rw [cmpB_cons, if_pos rfl]
theorem cmpB_less (c d : UInt8) (x y : List UInt8) (h : c.toNat < d.toNat) : cmpB (c :: x) (d :: y) = -1 := by simp [cmpB, h]
theorem cmpB_more (c d : UInt8) (x y : List UInt8) (h : d.toNat < c.toNat) : cmpB (c :: x) (d :: y) = 1 := by
  simp only [cmpB]; rw [if_neg (by omega), if_pos h]
theorem pos_of_ne {c : UInt8} (h : ¬ c = 0) : 0 < c.toNat := by
  rcases Nat.eq_zero_or_pos c.toNat with e | e
  · exact absurd (UInt8.toNat_inj.1 (by simpa using e)) h
  · exact e
theorem wr_cons0 (l r : List UInt8) : writtenL (0 :: l) ++ r = 0 :: 255 :: (writtenL l ++ r) := by simp [writtenL, wr1]
theorem wr_cons1 (c : UInt8) (h : ¬ c = 0) (l r : List UInt8) : writtenL (c :: l) ++ r = c :: (writtenL l ++ r) := by simp [writtenL, wr1, h]
theorem wr_nil (r : List UInt8) : writtenL [] ++ r = 0 :: 1 :: r := rfl
theorem wr_cmp (r s : List UInt8) : ∀ (a b : List UInt8), cmpB (writtenL a ++ r) (writtenL b ++ s) = if cmpB a b = 0 then cmpB r s else cmpB a b
  | [], [] => by rw [wr_nil, wr_nil, cmpB_same, cmpB_same]; rfl
  | [], y :: ys => by
    by_cases hy : y = 0
    · subst hy; rw [wr_nil, wr_cons0, cmpB_same, cmpB_less _ _ _ _ (by decide)]; rfl
    · rw [wr_nil, wr_cons1 y hy, cmpB_less _ _ _ _ (by have := pos_of_ne hy; simpa using this)]; rfl
  | x :: xs, [] => by
    by_cases hx : x = 0
    · subst hx; rw [wr_nil, wr_cons0, cmpB_same, cmpB_more _ _ _ _ (by decide)]; rfl
    · rw [wr_nil, wr_cons1 x hx, cmpB_more _ _ _ _ (by have := pos_of_ne hx; simpa using this)]; rfl
  | x :: xs, y :: ys => by
    have ih := wr_cmp r s xs ys
    by_cases hx : x = 0
    · subst hx
      by_cases hy : y = 0
      · subst hy; rw [wr_cons0, wr_cons0, cmpB_same, cmpB_same, cmpB_same, ih]
      · have h := pos_of_ne hy
        rw [wr_cons0, wr_cons1 y hy, cmpB_less _ _ _ _ (by simpa using h), cmpB_less _ _ _ _ (by simpa using h)]; rfl
    · by_cases hy : y = 0
      · subst hy
        have h := pos_of_ne hx
        rw [wr_cons0, wr_cons1 x hx, cmpB_more _ _ _ _ (by simpa using h), cmpB_more _ _ _ _ (by simpa using h)]; rfl
      · rw [wr_cons1 x hx, wr_cons1 y hy]
        by_cases h : x = y
        · subst h; rw [cmpB_same, cmpB_same, ih]
        · have hn : x.toNat ≠ y.toNat := fun e => h (UInt8.toNat_inj.1 e)
          rcases Nat.lt_or_gt_of_ne hn with h1 | h1
          · rw [cmpB_less _ _ _ _ h1, cmpB_less _ _ _ _ h1]; rfl
          · rw [cmpB_more _ _ _ _ h1, cmpB_more _ _ _ _ h1]; rfl
/-- so many bytes, the highest first. -/
def beL : Nat → Nat → List UInt8
  | 0, _ => []
  | n + 1, m => beL n (m / 256) ++ [UInt8.ofNat m]
theorem eight_be (m : Nat) : eight m = beL 8 m := by
  simp [eight, beL, Nat.div_div_eq_div_mul]
theorem be_cmp : ∀ (n m k : Nat) (r s : List UInt8), m < 256 ^ n → k < 256 ^ n → cmpB (beL n m ++ r) (beL n k ++ s) = if m = k then cmpB r s else cmpI (m : Int) (k : Int)
  | 0, m, k, r, s, h1, h2 => by
    have e1 : m = 0 := by simpa using h1
    have e2 : k = 0 := by simpa using h2
    subst e1 e2
    rfl
  | n + 1, m, k, r, s, h1, h2 => by
    rw [Nat.pow_succ] at h1 h2
    have e : ∀ m r, beL (n + 1) m ++ r = beL n (m / 256) ++ (UInt8.ofNat m :: r) := fun m r => by simp [beL]
    rw [e, e, be_cmp n (m / 256) (k / 256) _ _ (by omega) (by omega), cmpB_cons]
    have hb : ∀ m : Nat, (UInt8.ofNat m).toNat = m % 256 := fun m => by rw [UInt8.toNat_ofNat']
    have hi : (UInt8.ofNat m = UInt8.ofNat k) ↔ m % 256 = k % 256 := by
      rw [← UInt8.toNat_inj, hb, hb]
    by_cases hq : m / 256 = k / 256
    · rw [if_pos hq]
      by_cases hm : m = k
      · rw [if_pos hm, if_pos (by rw [hm])]
      · rw [if_neg hm, if_neg (fun h => hm (by have := hi.1 h; omega)), hb, hb]
        unfold cmpI
        repeat' split
        all_goals omega
    · rw [if_neg hq, if_neg (fun h => hq (by rw [h]))]
      unfold cmpI
      repeat' split
      all_goals omega
theorem int_cmp (a b : Int) (ha : I64 a) (hb : I64 b) (r s : List UInt8) : cmpB (intL a ++ r) (intL b ++ s) = if cmpI a b = 0 then cmpB r s else cmpI a b := by
  obtain ⟨a1, a2⟩ := ha
  obtain ⟨b1, b2⟩ := hb
  unfold intL
  rw [eight_be, eight_be, be_cmp 8 _ _ r s (by unfold turnN; omega) (by unfold turnN; omega)]
  by_cases h : a = b
  · subst h; simp [cmpI]
  · have hne : ¬ turnN a = turnN b := by unfold turnN; omega
    rw [if_neg hne]
    unfold cmpI turnN
    repeat' split
    all_goals omega
theorem row_cmp {α : Type} {g : α → List UInt8} {f : α → α → Int} (r s : List UInt8) : ∀ (xs ys : List α), (∀ x ∈ xs, ∃ c t, g x = c :: t ∧ c ≠ 0) → (∀ y ∈ ys, ∃ c t, g y = c :: t ∧ c ≠ 0) → (∀ x ∈ xs, ∀ y ∈ ys, ∀ r s, cmpB (g x ++ r) (g y ++ s) = if f x y = 0 then cmpB r s else f x y) →
    cmpB (xs.flatMap g ++ 0 :: r) (ys.flatMap g ++ 0 :: s) = if cmpL f xs ys = 0 then cmpB r s else cmpL f xs ys
  | [], [], _, _, _ => by simp [cmpL, cmpB_same]
  | [], y :: ys, _, hy, _ => by
    obtain ⟨c, t, e, hc⟩ := hy y (by simp)
    have h := pos_of_ne hc
    simp only [List.flatMap_nil, List.flatMap_cons, List.nil_append, e, List.cons_append, cmpL]
    rw [cmpB_less _ _ _ _ (by simpa using h)]; rfl
  | x :: xs, [], hx, _, _ => by
    obtain ⟨c, t, e, hc⟩ := hx x (by simp)
    have h := pos_of_ne hc
    simp only [List.flatMap_nil, List.flatMap_cons, List.nil_append, e, List.cons_append, cmpL]
    rw [cmpB_more _ _ _ _ (by simpa using h)]; rfl
  | x :: xs, y :: ys, hx, hy, hf => by
    have ih := row_cmp (g := g) (f := f) r s xs ys (fun z hz => hx z (List.mem_cons_of_mem _ hz)) (fun z hz => hy z (List.mem_cons_of_mem _ hz)) (fun z hz u hu => hf z (List.mem_cons_of_mem _ hz) u (List.mem_cons_of_mem _ hu))
    simp only [List.flatMap_cons, List.append_assoc]
    by_cases h : f x y = 0
    · have e : cmpL f (x :: xs) (y :: ys) = cmpL f xs ys := by rw [cmpL, if_pos h]
      rw [e, hf x (by simp) y (by simp), if_pos h, ih]
    · have e : cmpL f (x :: xs) (y :: ys) = f x y := by rw [cmpL, if_neg h]
      rw [e, hf x (by simp) y (by simp), if_neg h, if_neg h]
theorem put_cmp : ∀ (n : Nat) (a b : V), Nice n a → Nice n b → ∀ r s, cmpB (putV (n + 1) a ++ r) (putV (n + 1) b ++ s) = if cmpV (n + 1) a b = 0 then cmpB r s else cmpV (n + 1) a b := by
  intro n
  induction n using Nat.strongRecOn with
  | _ n ih =>
    intro a b ha hb r s
    obtain ⟨a0, a5, aI, aw⟩ := ha.partsK
    obtain ⟨b0, b5, bI, bw⟩ := hb.partsK
    obtain ⟨_, _, _, ali, afi⟩ := ha.innerK
    obtain ⟨_, _, _, bli, bfi⟩ := hb.innerK
    obtain ⟨c, t, ea, hc, hck, rfl⟩ := putV_hd n a a0 a5
    obtain ⟨d, u, eb, hd, hdk, rfl⟩ := putV_hd n b b0 b5
    rw [ea, eb, List.cons_append, List.cons_append, cmpB_cons]
    by_cases hk : a.kind = b.kind
    · have hcd : c = d := UInt8.toNat_inj.1 (by omega)
      rw [if_pos hcd]
      have hV : cmpV (n + 1) a b = (if a.kind = 1 ∨ a.kind = 2 then cmpI a.num b.num else if a.kind = 3 then cmpT a.text b.text else if a.kind = 4 then cmpL (cmpV n) a.list b.list else if a.kind = 5 then cmpL (cmpF (cmpV n)) a.fields b.fields else 0) := by
        simp only [cmpV]; rw [if_pos hk]
      rw [hV]
      have hT : ∀ p q : ByteArray, cmpT p q = cmpB p.data.toList q.data.toList := fun p q => by unfold cmpT; rw [Lib.toList_data, Lib.toList_data]
      obtain e | e | e | e | e | e : a.kind = 0 ∨ a.kind = 1 ∨ a.kind = 2 ∨ a.kind = 3 ∨ a.kind = 4 ∨ a.kind = 5 := by omega
      · have e' := hk.symm.trans e
        simp [tailV, e, e']
      · have e' := hk.symm.trans e
        simp only [tailV, e, e', if_true, true_or, List.singleton_append]
        rw [cmpB_cons]
        rcases aw.2 e with h1 | h1 <;> rcases bw.2 e' with h2 | h2 <;> rw [h1, h2] <;> simp [cmpI]
      · have e' := hk.symm.trans e
        simp only [tailV, e, e', show ¬ (2 : Int) = 1 by decide, if_true, if_false, or_true]
        exact int_cmp _ _ aI bI r s
      · have e' := hk.symm.trans e
        simp only [tailV, e, e', show ¬ (3 : Int) = 1 by decide, show ¬ (3 : Int) = 2 by decide, or_self, if_true, if_false, hT]
        exact wr_cmp r s _ _
      · have e' := hk.symm.trans e
        simp only [tailV, e, e', show ¬ (4 : Int) = 1 by decide, show ¬ (4 : Int) = 2 by decide, show ¬ (4 : Int) = 3 by decide, or_self, if_true, if_false, List.append_assoc, List.singleton_append]
        refine row_cmp r s _ _ (fun x hx => ?_) (fun x hx => ?_) fun x hx y hy r s => ?_
        · obtain ⟨m, rfl, hm⟩ := ali x hx
          obtain ⟨c, t, e1, e2, _⟩ := putV_hd m x hm.partsK.1 hm.partsK.2.1
          exact ⟨c, t, e1, e2⟩
        · obtain ⟨m, rfl, hm⟩ := bli x hx
          obtain ⟨c, t, e1, e2, _⟩ := putV_hd m x hm.partsK.1 hm.partsK.2.1
          exact ⟨c, t, e1, e2⟩
        · obtain ⟨m, rfl, hm⟩ := ali x hx
          obtain ⟨m', e2, hm'⟩ := bli y hy
          obtain rfl : m = m' := by omega
          exact ih m (by omega) x y hm hm' r s
      · have e' := hk.symm.trans e
        simp only [tailV, e, e', show ¬ (5 : Int) = 1 by decide, show ¬ (5 : Int) = 2 by decide, show ¬ (5 : Int) = 3 by decide, show ¬ (5 : Int) = 4 by decide, or_self, if_true, if_false, List.append_assoc, List.singleton_append]
        refine row_cmp r s _ _ (fun x hx => ⟨1, _, rfl, by decide⟩) (fun x hx => ⟨1, _, rfl, by decide⟩) fun x hx y hy r s => ?_
        obtain ⟨_, m, rfl, hm⟩ := afi x hx
        obtain ⟨_, m', e2, hm'⟩ := bfi y hy
        obtain rfl : m = m' := by omega
        simp only [fieldL, List.cons_append, List.append_assoc]
        rw [cmpB_same, wr_cmp, ih m (by omega) x.2 y.2 hm hm' r s]
        by_cases h : cmpB x.1.data.toList y.1.data.toList = 0
        · have e : cmpF (cmpV (m + 1)) x y = cmpV (m + 1) x.2 y.2 := by unfold cmpF; rw [hT, if_pos h]
          rw [e, if_pos h]
        · have e : cmpF (cmpV (m + 1)) x y = cmpB x.1.data.toList y.1.data.toList := by unfold cmpF; rw [hT, if_neg h]
          rw [e, if_neg h, if_neg h]
    · have hcd : ¬ c = d := fun h => hk (by rw [← hck, ← hdk, h])
      have hV : cmpV (n + 1) a b = cmpI a.kind b.kind := by simp only [cmpV]; rw [if_neg hk]
      rw [if_neg hcd, hV]
      unfold cmpI
      repeat' split
      all_goals omega
theorem put_cmp' (n : Nat) (a b : V) (ha : Nice n a) (hb : Nice n b) : cmpB (putV (n + 1) a) (putV (n + 1) b) = cmpV (n + 1) a b := by
  have := put_cmp n a b ha hb [] []
  simp only [List.append_nil] at this
  rw [this]
  split
  · rename_i h; rw [h]; rfl
  · rfl
end Go.Proofs.YtehjdamdlokoaaaDoor
