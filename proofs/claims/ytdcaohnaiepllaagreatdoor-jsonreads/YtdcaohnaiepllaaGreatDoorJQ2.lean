/-
  Numbers in digits, plain. Conditions: as stated.
-/
import Derived.Test.YtdcaohnaiepllaaGreatDoorJQ1
import Derived.Test.YtdcaohnaiepllaaGreatDoorU3
import Derived.Test.YtdcaohnaiepllaaGreatDoorU11
import Derived.Deep.CutBlock
import Derived.Deep.DeepCutAuto
namespace Go.Proofs.YtdcaohnaiepllaaGreatDoor
open Go.RowKit Go.Extern.Stop Go.Stop Go.Extern

theorem uint_ok {ds : List UInt8} (h0 : ds ≠ []) (hd : ∀ b ∈ ds, isDg b) (h : val 0 ds ≤ 18446744073709551615) : Lib.parseUintB 64 ds = .ok (val 0 ds) := by
  unfold Lib.parseUintB
  rw [if_neg h0]
  exact val_ok _ (by decide) ds 0 hd h
theorem uint_of {ds : List UInt8} (hd : ∀ b ∈ ds, isDg b) {u : Nat} (h : Lib.parseUintB 64 ds = .ok u) : u = val 0 ds := by
  unfold Lib.parseUintB at h
  split at h
  · cases h
  · exact (val_of_ok _ ds 0 u hd h (by decide)).1
theorem int_pos {ds : List UInt8} (h0 : ds ≠ []) (hd : ∀ b ∈ ds, isDg b) (h : val 0 ds < 9223372036854775808) : Lib.parseIntB 64 ds = .ok (val 0 ds : Int) := by
  have hu := uint_ok h0 hd (by omega)
  cases ds with
  | nil => exact absurd rfl h0
  | cons c r =>
    have hc := hd c (by simp)
    unfold isDg at hc
    unfold Lib.parseIntB
    simp only
    rw [if_neg (by omega), hu]
    simp only
    rw [if_neg (fun e => by have := e.2; omega), if_neg (fun e => by have := e.1; omega), if_neg (by omega)]
theorem int_pos_no {ds : List UInt8} (hd : ∀ b ∈ ds, isDg b) (h : 9223372036854775808 ≤ val 0 ds) (v : Int) : Lib.parseIntB 64 ds ≠ .ok v := by
  intro hv
  cases ds with
  | nil => simp [val_nil] at h
  | cons c r =>
    have hc := hd c (by simp)
    unfold isDg at hc
    unfold Lib.parseIntB at hv
    simp only at hv
    rw [if_neg (by omega)] at hv
    cases hp : Lib.parseUintB 64 (c :: r) with
    | ok u =>
      rw [hp] at hv
      have := uint_of hd hp
      simp only at hv
      rw [if_pos ⟨by omega, by omega⟩] at hv
      cases hv
    | «syntax» => rw [hp] at hv; cases hv
    | range => rw [hp] at hv; cases hv
theorem int_neg {ds : List UInt8} (h0 : ds ≠ []) (hd : ∀ b ∈ ds, isDg b) (h : val 0 ds ≤ 9223372036854775808) : Lib.parseIntB 64 (45 :: ds) = .ok (-(val 0 ds : Int)) := by
  have hu := uint_ok h0 hd (by omega)
  unfold Lib.parseIntB
  simp only
  rw [if_pos (.inr (by decide)), hu]
  simp only
  rw [if_neg (fun e => e.1 (by decide)), if_neg (fun e => by have := e.2; omega), if_pos (by decide)]
theorem int_neg_no {ds : List UInt8} (hd : ∀ b ∈ ds, isDg b) (h : 9223372036854775808 < val 0 ds) (v : Int) : Lib.parseIntB 64 (45 :: ds) ≠ .ok v := by
  intro hv
  unfold Lib.parseIntB at hv
  simp only at hv
  rw [if_pos (.inr (by decide))] at hv
  cases hp : Lib.parseUintB 64 ds with
  | ok u =>
    rw [hp] at hv
    have := uint_of hd hp
    simp only at hv
    rw [if_neg (fun e => e.1 (by decide)), if_pos ⟨by decide, by omega⟩] at hv
    cases hv
  | «syntax» => rw [hp] at hv; cases hv
  | range => rw [hp] at hv; cases hv
/-- how many digits are read. -/
def cntW (d : List UInt8) : Nat := if hd d = 48 then 1 else digs d
theorem digs_all : ∀ (d : List UInt8), ∀ b ∈ d.take (digs d), isDg b
  | [], b, h => by simp at h
  | c :: t, b, h => by
    by_cases hc : isDg c
    · have e : digs (c :: t) = digs t + 1 := by simp only [digs, if_pos hc]
      rw [e, List.take_succ_cons] at h
      rcases List.mem_cons.1 h with rfl | h
      · exact hc
      · exact digs_all t b h
    · have e : digs (c :: t) = 0 := by simp only [digs, if_neg hc]
      rw [e] at h
      simp at h
theorem digs_stop : ∀ (d : List UInt8), ¬ (48 ≤ hd (d.drop (digs d)) ∧ hd (d.drop (digs d)) ≤ 57)
  | [] => by simp [hd]
  | c :: t => by
    by_cases hc : isDg c
    · have e : digs (c :: t) = digs t + 1 := by simp only [digs, if_pos hc]
      rw [e, List.drop_succ_cons]
      exact digs_stop t
    · have e : digs (c :: t) = 0 := by simp only [digs, if_neg hc]
      rw [e]
      exact hc
theorem cntW_le (d : List UInt8) : cntW d ≤ d.length := by
  unfold cntW
  split
  · rename_i h
    exact hd_drop_lt h (by decide)
  · exact digs_le d
theorem cntW_all (d : List UInt8) : ∀ b ∈ d.take (cntW d), isDg b := by
  unfold cntW
  split
  · rename_i h
    obtain ⟨c, t, rfl, hc⟩ := hd_cons h (by decide)
    intro b hb
    have : b = c := by simpa using hb
    subst this
    unfold isDg; omega
  · exact digs_all d
theorem digW_cnt (d : List UInt8) : digW d = if cntW d = 0 then none else some (cntW d) := by
  unfold digW cntW
  split
  · rfl
  · rfl
/-- where it stops. -/
theorem cntW_stop (d : List UInt8) (h : 48 ≤ hd (d.drop (cntW d)) ∧ hd (d.drop (cntW d)) ≤ 57) : cntW d = 1 ∧ hd d = 48 := by
  unfold cntW at h ⊢
  split
  · exact ⟨rfl, by assumption⟩
  · rename_i hn
    rw [if_neg hn] at h
    exact absurd h (digs_stop d)
theorem cntW_more {d : List UInt8} (h : 2 ≤ cntW d) : ¬ hd d = 48 := by
  unfold cntW at h
  split at h
  · omega
  · assumption
theorem take_all_at {s : ByteArray} {B m j : Nat} (hall : ∀ b ∈ (s.data.toList.drop B).take m, isDg b) (h1 : B ≤ j) (h2 : j < B + m) (hj : j < s.size) : isDg (s[j]'hj) := by
  refine hall _ ?_
  have e : ((s.data.toList.drop B).take m)[j - B]? = some (s[j]'hj) := by
    rw [List.getElem?_take, if_pos (by omega), List.getElem?_drop, show B + (j - B) = j by omega]
    have hl : j < s.data.toList.length := by rw [← size_list rfl]; exact hj
    rw [List.getElem?_eq_getElem hl]; rfl
  exact List.mem_of_getElem? e

def numE (r : List UInt8) : Lib.NumEnd Int → Except Int (V × List UInt8)
  | .ok v => .ok (intV v, r)
  | _ => .error 4
theorem numW_eq (l : List UInt8) (p : Bool) (hp : decide (hd l = 45) = p) :
    numW l = if cntW (l.drop p.toNat) = 0 then .error 1 else if hd ((l.drop p.toNat).drop (cntW (l.drop p.toNat))) = 46 ∨ hd ((l.drop p.toNat).drop (cntW (l.drop p.toNat))) = 101 ∨ hd ((l.drop p.toNat).drop (cntW (l.drop p.toNat))) = 69 then .error 4
      else numE ((l.drop p.toNat).drop (cntW (l.drop p.toNat))) (Lib.parseIntB 64 ((if p then [45] else []) ++ (l.drop p.toNat).take (cntW (l.drop p.toNat)))) := by
  have hsg : sgn l = p.toNat := by
    unfold sgn
    cases p with
    | true => rw [if_pos (of_decide_eq_true hp)]; rfl
    | false => rw [if_neg (of_decide_eq_false hp)]; rfl
  have htk : ∀ m, l.take (p.toNat + m) = (if p then [45] else []) ++ (l.drop p.toNat).take m := by
    intro m
    cases p with
    | false => simp
    | true =>
      obtain ⟨c, t, rfl, hc⟩ := hd_cons (of_decide_eq_true hp) (by decide)
      have : c = 45 := UInt8.toNat_inj.1 (by rw [hc]; rfl)
      subst this
      show (45 :: t).take (1 + m) = [45] ++ t.take m
      rw [Nat.add_comm, List.take_succ_cons]; rfl
  unfold numW
  rw [hsg, digW_cnt]
  split
  · rename_i h; split at h
    · rename_i h0; rw [if_pos h0]
    · cases h
  · rename_i kk h
    split at h
    · cases h
    · rename_i h0
      cases h
      rw [if_neg h0]
      unfold numEnd
      rw [← List.drop_drop, htk]
      split
      · rfl
      · cases Lib.parseIntB 64 ((if p = true then [45] else []) ++ (l.drop p.toNat).take (cntW (l.drop p.toNat))) <;> rfl

/-- what the law's readers tell: a value, a place, a code. -/
def RdR (s : ByteArray) (n : Nat) (w w' : World) (x : V) (l f : Value) (j : Nat) (c : Int) : Except Int (V × List UInt8) → Prop
  | .ok p => c = 0 ∧ x = p.1 ∧ j ≤ s.size ∧ s.data.toList.drop j = p.2 ∧ Rep (fun b => w.heap.size ≤ b) n w' x l f
  | .error d => c = d ∧ ¬ d = 0
def RdA (s : ByteArray) (n : Nat) (w : World) (res : Except Int (V × List UInt8)) (e : Ending) (w' : World) : Prop :=
  ∃ (x : V) (al : Option Addr) (nl cl : Nat) (af : Option Addr) (nf cf : Nat) (j : Nat) (c : Int), e = .returned (.tuple #[.agg #[.int .i64 x.kind, .int .i64 x.num, .string x.text, .slice al nl cl, .slice af nf cf], .int .i64 (j : Int), .int .i64 c]) ∧ Below w.heap.size w w' ∧ RdR s n w w' x (.slice al nl cl) (.slice af nf cf) j c res
theorem rd_bad {s : ByteArray} {n : Nat} {w w' : World} (k : Nat) (d : Int) (hd : ¬ d = 0) (hb : Below w.heap.size w w') : RdA s n w (.error d) (.returned (.tuple #[.agg #[.int .i64 0, .int .i64 0, .string ⟨#[]⟩, .slice none 0 0, .slice none 0 0], .int .i64 (k : Int), .int .i64 d])) w' :=
  ⟨nulV, none, 0, 0, none, 0, 0, k, d, rfl, hb, rfl, hd⟩

theorem qAl {N : Nat} {w w1 : World} {o : Obj} (h : Below N w w1) (hN : N ≤ w1.heap.size) : Below N w (w1.alloc o) := h.alloc hN _
theorem qSetc {N c o : Nat} {v : Value} {w w1 : World} (h : Below N w w1) (hc : N ≤ c) : Below N w (w1.setCell ⟨c, o, none⟩ v) :=
  ⟨h.os, h.tape, h.output, by simpa [World.setCell] using h.size, fun k hk => (Below.heap_setCell _ _ _ _ (by simp; omega)).trans (h.block k hk)⟩
theorem numE_no {r : List UInt8} {x : Lib.NumEnd Int} (h : ∀ v, x ≠ .ok v) : numE r x = .error 4 := by
  cases x with
  | ok v => exact absurd rfl (h v)
  | «syntax» => rfl
  | range => rfl
theorem val_take_le (l : List UInt8) (r : Nat) : val 0 (l.take r) ≤ val 0 l := by
  have e : val 0 l = val (val 0 (l.take r)) (l.drop r) := by
    have : val 0 (l.take r ++ l.drop r) = val (val 0 (l.take r)) (l.drop r) := by unfold val; rw [List.foldl_append]
    rw [List.take_append_drop] at this
    exact this
  rw [e]
  exact val_le _ _
theorem dig_val (x : UInt8) (d1 : (48 : Int) ≤ (x.toNat : Int)) (d2 : (x.toNat : Int) ≤ 57) (N : Nat) : ((stp N x : Nat) : Int) = (N : Int) * 10 + ((x.toNat : Int) - 48) := by
  rw [stp_eq]; omega

/-- the digits' loop. -/
theorem dig_facts (s : ByteArray) (B : Nat) (_hB : B ≤ s.size) : B + cntW (s.data.toList.drop B) ≤ s.size := by
  have := cntW_le (s.data.toList.drop B)
  rw [List.length_drop, ← size_list rfl] at this
  omega

set_option maxRecDepth 100000 in
set_option maxHeartbeats 8000000 in
theorem lnum_any (s : ByteArray) (hs : s.size ≤ 4096) (k : Nat) (hk : k ≤ s.size) (n : Nat) (w : World) : Calls Tryz.prog 42 #[.string s, .int .i64 (k : Int)] w (RdA s n w (numW (s.data.toList.drop k))) := by
  obtain ⟨p, hp⟩ : ∃ p, decide (hd (s.data.toList.drop k) = 45) = p := ⟨_, rfl⟩
  rw [numW_eq _ p hp, List.drop_drop]
  obtain ⟨B, hB⟩ : ∃ B, k + p.toNat = B := ⟨_, rfl⟩
  rw [hB]
  have hBs : B ≤ s.size := by
    cases p with
    | false => simp at hB; omega
    | true =>
      have := hd_drop_lt (of_decide_eq_true hp) (by decide)
      rw [List.length_drop, ← size_list rfl] at this
      simp at hB
      omega
  obtain ⟨m, hm⟩ : ∃ m, cntW (s.data.toList.drop B) = m := ⟨_, rfl⟩
  have hBm := dig_facts s B hBs
  have hall := cntW_all (s.data.toList.drop B)
  have hstop := cntW_stop (s.data.toList.drop B)
  have hmore := @cntW_more (s.data.toList.drop B)
  rw [hm] at hBm hall hstop hmore ⊢
  rw [List.drop_drop] at hstop ⊢
  obtain ⟨ds, hds⟩ : ∃ ds, (s.data.toList.drop B).take m = ds := ⟨_, rfl⟩
  have his := is_any s hs k hk ⟨#[45]⟩ (by decide) (w.alloc (.cells #[.int .i64 0, .int .i64 0, .string ⟨#[]⟩, .slice none 0 0, .slice none 0 0] 31))
  rw [show (⟨#[45]⟩ : ByteArray).data.toList = [45] from rfl, pref_one _ 45 (by decide), show (45 : UInt8).toNat = 45 from rfl, hp] at his
  obtain ⟨RES, hRES⟩ : ∃ R, (if m = 0 then Except.error 1 else if hd (s.data.toList.drop (B + m)) = 46 ∨ hd (s.data.toList.drop (B + m)) = 101 ∨ hd (s.data.toList.drop (B + m)) = 69 then .error 4
      else numE (s.data.toList.drop (B + m)) (Lib.parseIntB 64 ((if p then [45] else []) ++ (s.data.toList.drop B).take m)) : Except Int (V × List UInt8)) = R := ⟨_, rfl⟩
  rw [hRES]
  rw [hds] at hRES hall
  have HH := (show Hid _ from And.intro hRES (And.intro hall (And.intro hstop (And.intro hmore (And.intro hds hB)))))
  clear hRES hall hstop hmore hds hp hm
  obtain ⟨W, hW⟩ : ∃ W, W = w.alloc (.cells #[.int .i64 0, .int .i64 0, .string ⟨#[]⟩, .slice none 0 0, .slice none 0 0] 31) := ⟨_, rfl⟩
  have hWB : Below w.heap.size w W := by rw [hW]; exact (Below.refl _ _).alloc (Nat.le_refl _) _
  have rW : W.heap[w.heap.size]? = some (.cells #[.int .i64 0, .int .i64 0, .string ⟨#[]⟩, .slice none 0 0, .slice none 0 0] 31) := by rw [hW]; exact heap_alloc_new w _
  obtain ⟨r0, r1, r2, r3, r4, rf⟩ := row5 rW
  have hltW := lt_of_heap rW
  have HW := (show Hid _ from And.intro hWB hW)
  rw [← hW] at his
  clear hWB rW
  go_enter Tryz.func42, Tryz.ntmps42
  go_wp2_with fail
  rw [← hW]
  clear hW
  refine his.mono ?_
  rintro e w1 ⟨rfl, hw1⟩
  subst hw1
  clear his
  cases p
  · -- no sign
    obtain rfl : k = B := by simpa using hB
    clear hB
    obtain ⟨C, hC⟩ : ∃ C, k + m = C := ⟨_, rfl⟩
    go_upto_block 0 with fail
    go_cut [1] (fun s1 wx => s1 = .int .i64 (C : Int) ∧ wx = w1)
    case first =>
      go_wp2_with fail
      go_loopg [1] m (fun gg i wr => ∃ j : Nat, k ≤ j ∧ j ≤ C ∧ C - j ≤ gg ∧ i = .int .i64 (j : Int) ∧ Aside (wr = w1))
      case atStart => exact ⟨k, Nat.le_refl _, by omega, by omega, rfl, rfl⟩
      case round =>
        obtain ⟨j, hj0, hj1, hgg, rfl, hWr⟩ := hrel
        have zj0 : (0 : Int) ≤ (j : Int) := by omega
        by_cases hjm : j < C
        · have hlt : j < s.size := by omega
          have zj : (j : Int) < (s.size : Int) := by omega
          have hdg := take_all_at (m := m) (by rw [HH.out.2.2.2.2.1]; exact HH.out.2.1) hj0 (by omega) hlt
          obtain ⟨x, hx⟩ : ∃ x, s[j]'hlt = x := ⟨_, rfl⟩
          rw [hx] at hdg
          have d1 : (48 : Int) ≤ (x.toNat : Int) := by unfold isDg at hdg; omega
          have d2 : (x.toNat : Int) ≤ 57 := by unfold isDg at hdg; omega
          clear hdg
          by_cases hjB : j = k
          · have ejB : ((j : Int) == (k : Int)) = true := by rw [hjB]; simp
            clear hjB
            go_wp2_with fail
            go_roundg (C - (j + 1))
            case measure => omega
            case rel => exact ⟨j + 1, by omega, by omega, by omega, by go_num, hWr.out⟩
          · have ejB : ((j : Int) == (k : Int)) = false := by simp; omega
            have hltB : k < s.size := by omega
            have zB : (k : Int) < (s.size : Int) := by omega
            have zB0 : (0 : Int) ≤ (k : Int) := by omega
            obtain ⟨y, hy⟩ : ∃ y, s[k]'hltB = y := ⟨_, rfl⟩
            have ey : ((y.toNat : Int) != 48) = true := by
              have h48 := HH.out.2.2.2.1 (by omega)
              rw [drop_at s k hltB, hy] at h48
              have h48 : ¬ y.toNat = 48 := h48
              simp; omega
            clear hjB
            go_wp2_with fail
            go_roundg (C - (j + 1))
            case measure => omega
            case rel => exact ⟨j + 1, by omega, by omega, by omega, by go_num, hWr.out⟩
        · obtain rfl : j = C := by omega
          by_cases hlt : j < s.size
          · have zj : (j : Int) < (s.size : Int) := by omega
            obtain ⟨x, hx⟩ : ∃ x, s[j]'hlt = x := ⟨_, rfl⟩
            by_cases hdg : isDg x
            · have d1 : (48 : Int) ≤ (x.toNat : Int) := by unfold isDg at hdg; omega
              have d2 : (x.toNat : Int) ≤ 57 := by unfold isDg at hdg; omega
              obtain ⟨hm1, h48⟩ := HH.out.2.2.1 (by rw [hC, drop_at s j hlt, hx]; exact hdg)
              have hltB : k < s.size := by omega
              have zB : (k : Int) < (s.size : Int) := by omega
              have zB0 : (0 : Int) ≤ (k : Int) := by omega
              obtain ⟨y, hy⟩ : ∃ y, s[k]'hltB = y := ⟨_, rfl⟩
              have ey : ((y.toNat : Int) != 48) = false := by
                rw [drop_at s k hltB, hy] at h48
                have h48 : y.toNat = 48 := h48
                rw [h48]; rfl
              have ejB : ((j : Int) == (k : Int)) = false := by simp; omega
              clear hm1 h48 hdg
              go_wp2_with fail
              go_meet
              exact ⟨rfl, hWr.out⟩
            · by_cases c1 : (48 : Int) ≤ (x.toNat : Int)
              · have d2 : ¬ (x.toNat : Int) ≤ 57 := by unfold isDg at hdg; omega
                clear hdg
                go_wp2_with fail
                go_meet
                exact ⟨rfl, hWr.out⟩
              · clear hdg
                go_wp2_with fail
                go_meet
                exact ⟨rfl, hWr.out⟩
          · have zj : ¬ (j : Int) < (s.size : Int) := by omega
            go_wp2_with fail
            go_meet
            exact ⟨rfl, hWr.out⟩
    case rest =>
      obtain ⟨rfl, hwc⟩ := hcut
      rw [hwc]
      clear hwc
      by_cases hm0 : m = 0
      · have e0 : ((C : Int) == (k : Int)) = true := by simp; omega
        have hR : RES = .error 1 := by rw [← HH.out.1, if_pos hm0]
        subst hR
        clear hm0
        go_wp2_with fail
        refine bodyPost_ret (v := .tuple #[.agg #[.int .i64 0, .int .i64 0, .string ⟨#[]⟩, .slice none 0 0, .slice none 0 0], .int .i64 (k : Int), .int .i64 1]) (by simp [results, Tryz.results42, go_sem, r0, r1, r2, r3, r4]) rfl (rd_bad k 1 (by decide) ?_)
        have hk := HW.out.1
        repeat (with_reducible first | exact hk | refine qSetc ?_ (Nat.le_refl _))
      · have e0 : ((C : Int) == (k : Int)) = false := by simp; omega
        obtain ⟨dot, hdot⟩ : ∃ d : Bool, decide (hd (s.data.toList.drop C) = 46 ∨ hd (s.data.toList.drop C) = 101 ∨ hd (s.data.toList.drop C) = 69) = d := ⟨_, rfl⟩
        go_upto_region 10 with fail
        go_cut [76] (fun s76 wx => s76 = .bool dot ∧ wx = w1)
        case first =>
          by_cases hlt : C < s.size
          · have zC : (C : Int) < (s.size : Int) := by omega
            have zC0 : (0 : Int) ≤ (C : Int) := by omega
            obtain ⟨x, hx⟩ : ∃ x, s[C]'hlt = x := ⟨_, rfl⟩
            rw [drop_at s C hlt, hx] at hdot
            have hdot : decide (x.toNat = 46 ∨ x.toNat = 101 ∨ x.toNat = 69) = dot := hdot
            by_cases c46 : x.toNat = 46
            · have e46 : ((x.toNat : Int) == 46) = true := bl_eq x 46 c46
              obtain rfl : dot = true := by rw [← hdot]; simp [c46]
              clear hdot c46
              go_wp2_with fail
              go_meet
              exact ⟨rfl, rfl⟩
            · have e46 : ((x.toNat : Int) == 46) = false := bl_ne x 46 c46
              by_cases c101 : x.toNat = 101
              · have e101 : ((x.toNat : Int) == 101) = true := bl_eq x 101 c101
                obtain rfl : dot = true := by rw [← hdot]; simp [c101]
                clear hdot c46 c101
                go_wp2_with fail
                go_meet
                exact ⟨rfl, rfl⟩
              · have e101 : ((x.toNat : Int) == 101) = false := bl_ne x 101 c101
                obtain ⟨q, hq⟩ : ∃ q, ((x.toNat : Int) == 69) = q := ⟨_, rfl⟩
                obtain rfl : dot = q := by
                  rw [← hdot, ← hq]
                  by_cases c69 : x.toNat = 69
                  · simp [c69]
                  · have := bl_ne x 69 c69
                    rw [show ((69 : Nat) : Int) = 69 from rfl] at this
                    rw [this]
                    simp [c46, c101, c69]
                clear hdot c46 c101
                go_wp2_with fail
                go_meet
                exact ⟨rfl, rfl⟩
          · have zC : ¬ (C : Int) < (s.size : Int) := by omega
            obtain rfl : dot = false := by rw [← hdot, drop_end s C (by omega)]; decide
            clear hdot
            go_wp2_with fail
            go_meet
            exact ⟨rfl, rfl⟩
        case rest =>
          obtain ⟨rfl, hwc⟩ := hcut
          rw [hwc]
          clear hwc
          cases dot
          · have hR : RES = numE (s.data.toList.drop C) (Lib.parseIntB 64 ds) := by
              rw [← HH.out.1, if_neg hm0, hC, if_neg (of_decide_eq_false hdot)]
              rfl
            have hne : ds ≠ [] := by
              rw [← HH.out.2.2.2.2.1]
              intro e
              have := congrArg List.length e
              rw [List.length_take, List.length_drop, ← size_list rfl] at this
              simp at this
              omega
            have hdl : ds.length = m := by
              rw [← HH.out.2.2.2.2.1, List.length_take, List.length_drop, ← size_list rfl]
              omega
            have HR := (show Hid _ from And.intro hR (And.intro hne hdl))
            clear hR hne hdl hdot hm0 e0
            go_wp2_with fail
            go_loopg [10, 11, 12] m (fun gg nn i _ wr => ∃ (q N : Nat), k ≤ q ∧ q ≤ C ∧ C - q ≤ gg ∧ i = .int .i64 (q : Int) ∧ nn = .int .u64 (N : Int) ∧ N ≤ 9223372036854775808 ∧ Aside (N = val 0 (ds.take (q - k))) ∧ Aside (wr = w1))
            case atStart => exact ⟨k, 0, Nat.le_refl _, by omega, by omega, rfl, rfl, by decide, (by show 0 = val 0 (ds.take (k - k)); rw [Nat.sub_self, List.take_zero, val_nil]), rfl⟩
            case round =>
              obtain ⟨q, N, hq0, hq1, hgg, rfl, rfl, hN, hNv, hWr⟩ := hrel
              have zq0 : (0 : Int) ≤ (q : Int) := by omega
              by_cases hqC : q < C
              · have zqC : (q : Int) < (C : Int) := by omega
                have hlt : q < s.size := by omega
                have zq : (q : Int) < (s.size : Int) := by omega
                have hdg := take_all_at (m := m) (by rw [HH.out.2.2.2.2.1]; exact HH.out.2.1) hq0 (by omega) hlt
                have hat : ds[q - k]? = some (s[q]'hlt) := by
                  rw [← HH.out.2.2.2.2.1, List.getElem?_take, if_pos (by omega), List.getElem?_drop, show k + (q - k) = q by omega]
                  have hl : q < s.data.toList.length := by rw [← size_list rfl]; exact hlt
                  rw [List.getElem?_eq_getElem hl]; rfl
                obtain ⟨x, hx⟩ : ∃ x, s[q]'hlt = x := ⟨_, rfl⟩
                rw [hx] at hdg hat
                have d1 : (48 : Int) ≤ (x.toNat : Int) := by unfold isDg at hdg; omega
                have d2 : (x.toNat : Int) ≤ 57 := by unfold isDg at hdg; omega
                obtain ⟨t, ht⟩ : ∃ t : Int, (x.toNat : Int) - 48 = t := ⟨_, rfl⟩
                have t0 : 0 ≤ t := by omega
                have t9 : t ≤ 9 := by omega
                have hsub : t % 256 = t := by omega
                have h64 : (9223372036854775808 - t) % 18446744073709551616 = 9223372036854775808 - t := by omega
                have hst : val 0 (ds.take (q - k + 1)) = stp N x := by
                  rw [List.take_add_one, hat]
                  show val 0 (ds.take (q - k) ++ [x]) = _
                  rw [val_snoc, ← hNv.out]
                have hsv : ((stp N x : Nat) : Int) = (N : Int) * 10 + t := by rw [dig_val x d1 d2, ht]
                have HV := (show Hid _ from And.intro hst hsv)
                clear hdg hat d1 d2 hst hsv
                have hwr := hWr.out
                subst hwr
                by_cases hov : (9223372036854775808 - t) / 10 < (N : Int)
                · have hR4 : RES = .error 4 := by
                    have h1 := HV.out
                    have h2 := val_take_le ds (q - k + 1)
                    rw [HR.out.1]
                    exact numE_no (int_pos_no HH.out.2.1 (by omega))
                  subst hR4
                  go_wp2_with fail
                  refine bodyPost_ret (v := .tuple #[.agg #[.int .i64 0, .int .i64 0, .string ⟨#[]⟩, .slice none 0 0, .slice none 0 0], .int .i64 (k : Int), .int .i64 4]) (by simp [results, Tryz.results42, go_sem, r0, r1, r2, r3, r4]) rfl (rd_bad k 4 (by decide) ?_)
                  have hk := HW.out.1
                  repeat (with_reducible first | exact hk | refine qSetc ?_ (Nat.le_refl _))
                · have hmul : ((N : Int) * 10) % 18446744073709551616 = (N : Int) * 10 := by omega
                  have hadd : ((N : Int) * 10 + t) % 18446744073709551616 = (N : Int) * 10 + t := by omega
                  have hle : (N : Int) * 10 + t ≤ 9223372036854775808 := by omega
                  have HL := (show Hid _ from hle)
                  clear hle
                  go_wp2_with fail
                  go_roundg (C - (q + 1))
                  case measure => omega
                  case rel =>
                    have hv := HV.out
                    have hl := HL.out
                    exact ⟨q + 1, stp N x, by omega, by omega, by omega, by go_num, by rw [hv.2], by omega, (by show _ = _; rw [show q + 1 - k = q - k + 1 by omega, hv.1]), rfl⟩
              · obtain rfl : q = C := by omega
                have hN2 : N = val 0 ds := by rw [hNv.out, List.take_of_length_le (by rw [HR.out.2.2]; omega)]
                have zqC : ¬ (q : Int) < (q : Int) := by omega
                have hwr := hWr.out
                subst hwr
                have HN := (show Hid _ from hN2)
                clear hN2
                by_cases h63 : N = 9223372036854775808
                · have e63 : ((N : Int) == 9223372036854775808) = true := by rw [h63]; rfl
                  have hR4 : RES = .error 4 := by
                    rw [HR.out.1]
                    exact numE_no (int_pos_no HH.out.2.1 (by rw [← HN.out]; omega))
                  subst hR4
                  clear h63
                  go_wp2_with fail
                  refine bodyPost_ret (v := .tuple #[.agg #[.int .i64 0, .int .i64 0, .string ⟨#[]⟩, .slice none 0 0, .slice none 0 0], .int .i64 (k : Int), .int .i64 4]) (by simp [results, Tryz.results42, go_sem, r0, r1, r2, r3, r4]) rfl (rd_bad k 4 (by decide) ?_)
                  have hk := HW.out.1
                  repeat (with_reducible first | exact hk | refine qSetc ?_ (Nat.le_refl _))
                · have e63 : ((N : Int) == 9223372036854775808) = false := by simp; omega
                  have hR0 : RES = .ok (intV (N : Int), s.data.toList.drop q) := by
                    rw [HR.out.1]
                    show numE _ (Lib.parseIntB 64 ds) = _
                    rw [int_pos HR.out.2.1 HH.out.2.1 (by rw [← HN.out]; omega), ← HN.out]
                    rfl
                  subst hR0
                  have hw64 : wrap64 (N : Int) = (N : Int) := by unfold wrap64; omega
                  clear h63
                  go_wp2_with fail
                  refine bodyPost_ret (v := .tuple #[.agg #[.int .i64 2, .int .i64 (N : Int), .string ⟨#[]⟩, .slice none 0 0, .slice none 0 0], .int .i64 (q : Int), .int .i64 0]) (by simp [results, Tryz.results42, go_sem, r0, r1, r2, r3, r4]) rfl ⟨intV (N : Int), none, 0, 0, none, 0, 0, q, 0, rfl, ?_, rfl, rfl, by omega, rfl, Rep.le (n := 0) ⟨rfl, rfl, rfl, rfl⟩ (Nat.zero_le _)⟩
                  have hk := HW.out.1
                  repeat (with_reducible first | exact hk | refine qSetc ?_ (Nat.le_refl _))
          · have hR : RES = .error 4 := by rw [← HH.out.1, if_neg hm0, hC, if_pos (of_decide_eq_true hdot)]
            subst hR
            clear hm0 hdot e0
            go_wp2_with fail
            refine bodyPost_ret (v := .tuple #[.agg #[.int .i64 0, .int .i64 0, .string ⟨#[]⟩, .slice none 0 0, .slice none 0 0], .int .i64 (k : Int), .int .i64 4]) (by simp [results, Tryz.results42, go_sem, r0, r1, r2, r3, r4]) rfl (rd_bad k 4 (by decide) ?_)
            have hk := HW.out.1
            repeat (with_reducible first | exact hk | refine qSetc ?_ (Nat.le_refl _))
  · have hBi : (k : Int) + 1 = (B : Int) := by rw [← hB]; rfl
    clear hB
    obtain ⟨C, hC⟩ : ∃ C, B + m = C := ⟨_, rfl⟩
    go_upto_block 0 with fail
    clear hBi
    go_cut [1] (fun s1 wx => s1 = .int .i64 (C : Int) ∧ wx = w1)
    case first =>
      go_wp2_with fail
      go_loopg [1] m (fun gg i wr => ∃ j : Nat, B ≤ j ∧ j ≤ C ∧ C - j ≤ gg ∧ i = .int .i64 (j : Int) ∧ Aside (wr = w1))
      case atStart => exact ⟨B, Nat.le_refl _, by omega, by omega, rfl, rfl⟩
      case round =>
        obtain ⟨j, hj0, hj1, hgg, rfl, hWr⟩ := hrel
        have zj0 : (0 : Int) ≤ (j : Int) := by omega
        by_cases hjm : j < C
        · have hlt : j < s.size := by omega
          have zj : (j : Int) < (s.size : Int) := by omega
          have hdg := take_all_at (m := m) (by rw [HH.out.2.2.2.2.1]; exact HH.out.2.1) hj0 (by omega) hlt
          obtain ⟨x, hx⟩ : ∃ x, s[j]'hlt = x := ⟨_, rfl⟩
          rw [hx] at hdg
          have d1 : (48 : Int) ≤ (x.toNat : Int) := by unfold isDg at hdg; omega
          have d2 : (x.toNat : Int) ≤ 57 := by unfold isDg at hdg; omega
          clear hdg
          by_cases hjB : j = B
          · have ejB : ((j : Int) == (B : Int)) = true := by rw [hjB]; simp
            clear hjB
            go_wp2_with fail
            go_roundg (C - (j + 1))
            case measure => omega
            case rel => exact ⟨j + 1, by omega, by omega, by omega, by go_num, hWr.out⟩
          · have ejB : ((j : Int) == (B : Int)) = false := by simp; omega
            have hltB : B < s.size := by omega
            have zB : (B : Int) < (s.size : Int) := by omega
            have zB0 : (0 : Int) ≤ (B : Int) := by omega
            obtain ⟨y, hy⟩ : ∃ y, s[B]'hltB = y := ⟨_, rfl⟩
            have ey : ((y.toNat : Int) != 48) = true := by
              have h48 := HH.out.2.2.2.1 (by omega)
              rw [drop_at s B hltB, hy] at h48
              have h48 : ¬ y.toNat = 48 := h48
              simp; omega
            clear hjB
            go_wp2_with fail
            go_roundg (C - (j + 1))
            case measure => omega
            case rel => exact ⟨j + 1, by omega, by omega, by omega, by go_num, hWr.out⟩
        · obtain rfl : j = C := by omega
          by_cases hlt : j < s.size
          · have zj : (j : Int) < (s.size : Int) := by omega
            obtain ⟨x, hx⟩ : ∃ x, s[j]'hlt = x := ⟨_, rfl⟩
            by_cases hdg : isDg x
            · have d1 : (48 : Int) ≤ (x.toNat : Int) := by unfold isDg at hdg; omega
              have d2 : (x.toNat : Int) ≤ 57 := by unfold isDg at hdg; omega
              obtain ⟨hm1, h48⟩ := HH.out.2.2.1 (by rw [hC, drop_at s j hlt, hx]; exact hdg)
              have hltB : B < s.size := by omega
              have zB : (B : Int) < (s.size : Int) := by omega
              have zB0 : (0 : Int) ≤ (B : Int) := by omega
              obtain ⟨y, hy⟩ : ∃ y, s[B]'hltB = y := ⟨_, rfl⟩
              have ey : ((y.toNat : Int) != 48) = false := by
                rw [drop_at s B hltB, hy] at h48
                have h48 : y.toNat = 48 := h48
                rw [h48]; rfl
              have ejB : ((j : Int) == (B : Int)) = false := by simp; omega
              clear hm1 h48 hdg
              go_wp2_with fail
              go_meet
              exact ⟨rfl, hWr.out⟩
            · by_cases c1 : (48 : Int) ≤ (x.toNat : Int)
              · have d2 : ¬ (x.toNat : Int) ≤ 57 := by unfold isDg at hdg; omega
                clear hdg
                go_wp2_with fail
                go_meet
                exact ⟨rfl, hWr.out⟩
              · clear hdg
                go_wp2_with fail
                go_meet
                exact ⟨rfl, hWr.out⟩
          · have zj : ¬ (j : Int) < (s.size : Int) := by omega
            go_wp2_with fail
            go_meet
            exact ⟨rfl, hWr.out⟩
    case rest =>
      obtain ⟨rfl, hwc⟩ := hcut
      rw [hwc]
      clear hwc
      by_cases hm0 : m = 0
      · have e0 : ((C : Int) == (B : Int)) = true := by simp; omega
        have hR : RES = .error 1 := by rw [← HH.out.1, if_pos hm0]
        subst hR
        clear hm0
        go_wp2_with fail
        refine bodyPost_ret (v := .tuple #[.agg #[.int .i64 0, .int .i64 0, .string ⟨#[]⟩, .slice none 0 0, .slice none 0 0], .int .i64 (k : Int), .int .i64 1]) (by simp [results, Tryz.results42, go_sem, r0, r1, r2, r3, r4]) rfl (rd_bad k 1 (by decide) ?_)
        have hk := HW.out.1
        repeat (with_reducible first | exact hk | refine qSetc ?_ (Nat.le_refl _))
      · have e0 : ((C : Int) == (B : Int)) = false := by simp; omega
        obtain ⟨dot, hdot⟩ : ∃ d : Bool, decide (hd (s.data.toList.drop C) = 46 ∨ hd (s.data.toList.drop C) = 101 ∨ hd (s.data.toList.drop C) = 69) = d := ⟨_, rfl⟩
        go_upto_region 10 with fail
        go_cut [76] (fun s76 wx => s76 = .bool dot ∧ wx = w1)
        case first =>
          by_cases hlt : C < s.size
          · have zC : (C : Int) < (s.size : Int) := by omega
            have zC0 : (0 : Int) ≤ (C : Int) := by omega
            obtain ⟨x, hx⟩ : ∃ x, s[C]'hlt = x := ⟨_, rfl⟩
            rw [drop_at s C hlt, hx] at hdot
            have hdot : decide (x.toNat = 46 ∨ x.toNat = 101 ∨ x.toNat = 69) = dot := hdot
            by_cases c46 : x.toNat = 46
            · have e46 : ((x.toNat : Int) == 46) = true := bl_eq x 46 c46
              obtain rfl : dot = true := by rw [← hdot]; simp [c46]
              clear hdot c46
              go_wp2_with fail
              go_meet
              exact ⟨rfl, rfl⟩
            · have e46 : ((x.toNat : Int) == 46) = false := bl_ne x 46 c46
              by_cases c101 : x.toNat = 101
              · have e101 : ((x.toNat : Int) == 101) = true := bl_eq x 101 c101
                obtain rfl : dot = true := by rw [← hdot]; simp [c101]
                clear hdot c46 c101
                go_wp2_with fail
                go_meet
                exact ⟨rfl, rfl⟩
              · have e101 : ((x.toNat : Int) == 101) = false := bl_ne x 101 c101
                obtain ⟨q, hq⟩ : ∃ q, ((x.toNat : Int) == 69) = q := ⟨_, rfl⟩
                obtain rfl : dot = q := by
                  rw [← hdot, ← hq]
                  by_cases c69 : x.toNat = 69
                  · simp [c69]
                  · have := bl_ne x 69 c69
                    rw [show ((69 : Nat) : Int) = 69 from rfl] at this
                    rw [this]
                    simp [c46, c101, c69]
                clear hdot c46 c101
                go_wp2_with fail
                go_meet
                exact ⟨rfl, rfl⟩
          · have zC : ¬ (C : Int) < (s.size : Int) := by omega
            obtain rfl : dot = false := by rw [← hdot, drop_end s C (by omega)]; decide
            clear hdot
            go_wp2_with fail
            go_meet
            exact ⟨rfl, rfl⟩
        case rest =>
          obtain ⟨rfl, hwc⟩ := hcut
          rw [hwc]
          clear hwc
          cases dot
          · have hR : RES = numE (s.data.toList.drop C) (Lib.parseIntB 64 (45 :: ds)) := by
              rw [← HH.out.1, if_neg hm0, hC, if_neg (of_decide_eq_false hdot)]
              rfl
            have hne : ds ≠ [] := by
              rw [← HH.out.2.2.2.2.1]
              intro e
              have := congrArg List.length e
              rw [List.length_take, List.length_drop, ← size_list rfl] at this
              simp at this
              omega
            have hdl : ds.length = m := by
              rw [← HH.out.2.2.2.2.1, List.length_take, List.length_drop, ← size_list rfl]
              omega
            have HR := (show Hid _ from And.intro hR (And.intro hne hdl))
            clear hR hne hdl hdot hm0 e0
            go_wp2_with fail
            go_loopg [10, 11, 12] m (fun gg nn i _ wr => ∃ (q N : Nat), B ≤ q ∧ q ≤ C ∧ C - q ≤ gg ∧ i = .int .i64 (q : Int) ∧ nn = .int .u64 (N : Int) ∧ N ≤ 9223372036854775808 ∧ Aside (N = val 0 (ds.take (q - B))) ∧ Aside (wr = w1))
            case atStart => exact ⟨B, 0, Nat.le_refl _, by omega, by omega, rfl, rfl, by decide, (by show 0 = val 0 (ds.take (B - B)); rw [Nat.sub_self, List.take_zero, val_nil]), rfl⟩
            case round =>
              obtain ⟨q, N, hq0, hq1, hgg, rfl, rfl, hN, hNv, hWr⟩ := hrel
              have zq0 : (0 : Int) ≤ (q : Int) := by omega
              by_cases hqC : q < C
              · have zqC : (q : Int) < (C : Int) := by omega
                have hlt : q < s.size := by omega
                have zq : (q : Int) < (s.size : Int) := by omega
                have hdg := take_all_at (m := m) (by rw [HH.out.2.2.2.2.1]; exact HH.out.2.1) hq0 (by omega) hlt
                have hat : ds[q - B]? = some (s[q]'hlt) := by
                  rw [← HH.out.2.2.2.2.1, List.getElem?_take, if_pos (by omega), List.getElem?_drop, show B + (q - B) = q by omega]
                  have hl : q < s.data.toList.length := by rw [← size_list rfl]; exact hlt
                  rw [List.getElem?_eq_getElem hl]; rfl
                obtain ⟨x, hx⟩ : ∃ x, s[q]'hlt = x := ⟨_, rfl⟩
                rw [hx] at hdg hat
                have d1 : (48 : Int) ≤ (x.toNat : Int) := by unfold isDg at hdg; omega
                have d2 : (x.toNat : Int) ≤ 57 := by unfold isDg at hdg; omega
                obtain ⟨t, ht⟩ : ∃ t : Int, (x.toNat : Int) - 48 = t := ⟨_, rfl⟩
                have t0 : 0 ≤ t := by omega
                have t9 : t ≤ 9 := by omega
                have hsub : t % 256 = t := by omega
                have h64 : (9223372036854775808 - t) % 18446744073709551616 = 9223372036854775808 - t := by omega
                have hst : val 0 (ds.take (q - B + 1)) = stp N x := by
                  rw [List.take_add_one, hat]
                  show val 0 (ds.take (q - B) ++ [x]) = _
                  rw [val_snoc, ← hNv.out]
                have hsv : ((stp N x : Nat) : Int) = (N : Int) * 10 + t := by rw [dig_val x d1 d2, ht]
                have HV := (show Hid _ from And.intro hst hsv)
                clear hdg hat d1 d2 hst hsv
                have hwr := hWr.out
                subst hwr
                by_cases hov : (9223372036854775808 - t) / 10 < (N : Int)
                · have hR4 : RES = .error 4 := by
                    have h1 := HV.out
                    have h2 := val_take_le ds (q - B + 1)
                    rw [HR.out.1]
                    exact numE_no (int_neg_no HH.out.2.1 (by omega))
                  subst hR4
                  go_wp2_with fail
                  refine bodyPost_ret (v := .tuple #[.agg #[.int .i64 0, .int .i64 0, .string ⟨#[]⟩, .slice none 0 0, .slice none 0 0], .int .i64 (k : Int), .int .i64 4]) (by simp [results, Tryz.results42, go_sem, r0, r1, r2, r3, r4]) rfl (rd_bad k 4 (by decide) ?_)
                  have hk := HW.out.1
                  repeat (with_reducible first | exact hk | refine qSetc ?_ (Nat.le_refl _))
                · have hmul : ((N : Int) * 10) % 18446744073709551616 = (N : Int) * 10 := by omega
                  have hadd : ((N : Int) * 10 + t) % 18446744073709551616 = (N : Int) * 10 + t := by omega
                  have hle : (N : Int) * 10 + t ≤ 9223372036854775808 := by omega
                  have HL := (show Hid _ from hle)
                  clear hle
                  go_wp2_with fail
                  go_roundg (C - (q + 1))
                  case measure => omega
                  case rel =>
                    have hv := HV.out
                    have hl := HL.out
                    exact ⟨q + 1, stp N x, by omega, by omega, by omega, by go_num, by rw [hv.2], by omega, (by show _ = _; rw [show q + 1 - B = q - B + 1 by omega, hv.1]), rfl⟩
              · obtain rfl : q = C := by omega
                have hN2 : N = val 0 ds := by rw [hNv.out, List.take_of_length_le (by rw [HR.out.2.2]; omega)]
                have zqC : ¬ (q : Int) < (q : Int) := by omega
                have hwr := hWr.out
                subst hwr
                have HN := (show Hid _ from hN2)
                clear hN2
                have hw64 : wrap64 (IntKind.u64.wrap (-(N : Int))) = -(N : Int) := by rw [IntKind.wrap_u64]; unfold wrap64; omega
                have hR0 : RES = .ok (intV (-(N : Int)), s.data.toList.drop q) := by
                  rw [HR.out.1]
                  show numE _ (Lib.parseIntB 64 (45 :: ds)) = _
                  rw [int_neg HR.out.2.1 HH.out.2.1 (by rw [← HN.out]; omega), ← HN.out]
                  rfl
                subst hR0
                obtain ⟨e63, he63⟩ : ∃ b, ((N : Int) == 9223372036854775808) = b := ⟨_, rfl⟩
                cases e63
                all_goals
                  go_wp2_with fail
                  refine bodyPost_ret (v := .tuple #[.agg #[.int .i64 2, .int .i64 (-(N : Int)), .string ⟨#[]⟩, .slice none 0 0, .slice none 0 0], .int .i64 (q : Int), .int .i64 0]) (by simp [results, Tryz.results42, go_sem, r0, r1, r2, r3, r4]) rfl ⟨intV (-(N : Int)), none, 0, 0, none, 0, 0, q, 0, rfl, ?_, rfl, rfl, by omega, rfl, Rep.le (n := 0) ⟨rfl, rfl, rfl, rfl⟩ (Nat.zero_le _)⟩
                  have hk := HW.out.1
                  repeat (with_reducible first | exact hk | refine qSetc ?_ (Nat.le_refl _))
          · have hR : RES = .error 4 := by rw [← HH.out.1, if_neg hm0, hC, if_pos (of_decide_eq_true hdot)]
            subst hR
            clear hm0 hdot e0
            go_wp2_with fail
            refine bodyPost_ret (v := .tuple #[.agg #[.int .i64 0, .int .i64 0, .string ⟨#[]⟩, .slice none 0 0, .slice none 0 0], .int .i64 (k : Int), .int .i64 4]) (by simp [results, Tryz.results42, go_sem, r0, r1, r2, r3, r4]) rfl (rd_bad k 4 (by decide) ?_)
            have hk := HW.out.1
            repeat (with_reducible first | exact hk | refine qSetc ?_ (Nat.le_refl _))
end Go.Proofs.YtdcaohnaiepllaaGreatDoor
