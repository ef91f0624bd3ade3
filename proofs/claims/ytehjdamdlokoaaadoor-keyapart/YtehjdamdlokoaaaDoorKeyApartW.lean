/-
  KeyApart's walk: no key is the beginning of another one; none that is cut off is one. Conditions: as stated.
-/
import Derived.Test.YtehjdamdlokoaaaDoorKP
import Derived.Test.YtehjdamdlokoaaaDoorKP2
import Derived.Test.YtehjdamdlokoaaaDoorKAw
import Derived.Test.YtehjdamdlokoaaaDoorKRow
namespace Go.Proofs.YtehjdamdlokoaaaDoor
open Go.RowKit

theorem key_list {v : V} {P : ByteArray} (hP : (⟨(putV (3 + 1) v).toArray⟩ : ByteArray) = P) : P.data.toList = putV (3 + 1) v := by rw [← hP]
theorem key_pos {v : V} (h : Nice 3 v) {P : ByteArray} (hP : (⟨(putV (3 + 1) v).toArray⟩ : ByteArray) = P) : 0 < P.size := by
  obtain ⟨c, t, e, _⟩ := putV_hd 3 v h.partsK.1 h.partsK.2.1
  rw [ba_size, key_list hP, e]
  simp
theorem key_cut {v : V} (h : Nice 3 v) {P : ByteArray} (hP : (⟨(putV (3 + 1) v).toArray⟩ : ByteArray) = P) (j : Nat) (hj : j < P.size) (x : V) : valueK 16 (P.extract 0 j).data.toList ≠ some (x, []) := by
  intro e
  have el : (P.extract 0 j).data.toList = (putV (3 + 1) v).take j := by
    have : (P.extract 0 j).data.toList = P.data.toList.take j := by simp
    rw [this, key_list hP]
  rw [el] at e
  have h1 := (value_more 16).2 _ _ e ((putV (3 + 1) v).drop j)
  rw [List.take_append_drop] at h1
  have h2 := value_back 3 v h 16 (by decide) []
  rw [List.append_nil] at h2
  rw [h2] at h1
  have h3 := congrArg Prod.snd (Option.some.inj h1)
  simp only [List.nil_append] at h3
  have h4 := congrArg List.length h3
  rw [ba_size, key_list hP] at hj
  simp only [List.length_nil, List.length_drop] at h4
  omega
theorem key_more {v : V} (h : Nice 3 v) {P Q : ByteArray} (hP : (⟨(putV (3 + 1) v).toArray⟩ : ByteArray) = P) (hQ : 0 < Q.size) (x : V) : valueK 16 (P ++ Q).data.toList ≠ some (x, []) := by
  intro e
  have el : (P ++ Q).data.toList = putV (3 + 1) v ++ Q.data.toList := by
    have : (P ++ Q).data.toList = P.data.toList ++ Q.data.toList := by simp
    rw [this, key_list hP]
  rw [el, value_back 3 v h 16 (by decide)] at e
  have h3 := congrArg Prod.snd (Option.some.inj e)
  rw [ba_size] at hQ
  simp only at h3
  rw [h3] at hQ
  simp at hQ
theorem key_apart {u v : V} (hu : Nice 3 u) (hv : Nice 3 v) {P Q : ByteArray} (hP : (⟨(putV (3 + 1) u).toArray⟩ : ByteArray) = P) (hQ : (⟨(putV (3 + 1) v).toArray⟩ : ByteArray) = Q) (h : (Q.extract 0 P.size).toList = P.toList) : P.toList = Q.toList := by
  rw [Lib.toList_data, Lib.toList_data] at h ⊢
  have e1 : (Q.extract 0 P.size).data.toList = Q.data.toList.take P.size := by simp
  rw [e1] at h
  have e2 : Q.data.toList = putV (3 + 1) u ++ Q.data.toList.drop P.size := by
    rw [← key_list hP, ← h, List.take_append_drop]
  have h1 := value_back 3 u hu 16 (by decide) (Q.data.toList.drop P.size)
  rw [← e2, key_list hQ] at h1
  have h2 := value_back 3 v hv 16 (by decide) []
  rw [List.append_nil, h1] at h2
  have h3 := congrArg Prod.snd (Option.some.inj h2)
  simp only at h3
  rw [key_list hQ, h3, List.append_nil] at e2
  rw [key_list hP, key_list hQ, e2]

set_option maxRecDepth 100000 in
set_option maxHeartbeats 4000000 in
theorem KeyApart_walk (v0 v1 : Value) (bs0 bs1 : List UInt8) (c : Int) (hc : (Lit.int .u8 c).wf = true) (w : World) (hb0 : BytesAt w v0 bs0) (hb1 : BytesAt w v1 bs1) (hE : Env w) :
    Calls Tryd.prog 7 #[v0, v1, .int .u8 c] w fun e w' => e = .returned (.bool true) ∧ Below w.heap.size w w' := by
  have hc0 : 0 ≤ c ∧ c ≤ 255 := by
    have h1 : IntKind.u8.min = 0 := rfl
    have h2 : IntKind.u8.max = 255 := rfl
    simp only [Lit.wf, Bool.and_eq_true, decide_eq_true_eq] at hc
    omega
  have HC := (show Hid _ from hc0)
  clear hc hc0
  go_enter Tryd.func7, Tryd.ntmps7
  go_wp2_with fail
  refine (awake_true _ hE.u8).mono ?_
  rintro e w1 ⟨rfl, hB1⟩
  go_wp2_with fail
  refine (Of_any v0 bs0 _ (hb0.below hB1) (hE.below hB1).tabs).mono ?_
  rintro e w2 ⟨x, lx, fx, rfl, hnx, hrx, hb2⟩
  obtain ⟨a1, c1, a2, c2, rfl, rfl⟩ := hrx.slices
  have hB2 := hB1.trans (hb2.mono hB1.size)
  obtain ⟨P, hP⟩ : ∃ A : ByteArray, (⟨(putV (3 + 1) x).toArray⟩ : ByteArray) = A := ⟨_, rfl⟩
  have cx := KPut_any 3 x _ _ w2 hrx.lies (nice_kfit 3 x hnx) (Nat.le_trans (put_len 3 x hnx) (by decide)) hP
  have HP := (show Hid _ from hP)
  clear hP
  go_wp2_with fail
  refine cx.mono ?_
  rintro e w3 ⟨rfl, hb3⟩
  have hB3 := hB2.trans (hb3.mono hB2.size)
  go_wp2_with fail
  refine (Of_any v1 bs1 _ (hb1.below hB3) (hE.below hB3).tabs).mono ?_
  rintro e w4 ⟨y, ly, fy, rfl, hny, hry, hb4⟩
  obtain ⟨a3, c3, a4, c4, rfl, rfl⟩ := hry.slices
  have hB4 := hB3.trans (hb4.mono hB3.size)
  obtain ⟨Q, hQ⟩ : ∃ A : ByteArray, (⟨(putV (3 + 1) y).toArray⟩ : ByteArray) = A := ⟨_, rfl⟩
  have cy := KPut_any 3 y _ _ w4 hry.lies (nice_kfit 3 y hny) (Nat.le_trans (put_len 3 y hny) (by decide)) hQ
  have HQ := (show Hid _ from hQ)
  clear hQ cx
  go_wp2_with fail
  refine cy.mono ?_
  rintro e w5 ⟨rfl, hb5⟩
  have hB5 := hB4.trans (hb5.mono hB4.size)
  have HN := (show Hid _ from And.intro hnx (And.intro hny (And.intro hB5 (hE.below hB5).u8)))
  have zp := key_pos hnx HP.out
  have zq := key_pos hny HQ.out
  have yp := put_size hnx HP.out
  have yq := put_size hny HQ.out
  clear cy hnx hny hrx hry hb2 hb3 hb4 hb5 hB1 hB2 hB3 hB4 hB5 hb0 hb1 hE
  have hp0 : ((P.size : Int) == 0) = false := by simp; intro h; rw [h] at zp; simp at zp
  have hp1 : ¬ (P.size : Int) = 0 := by omega
  obtain ⟨J, hJ⟩ : ∃ J : Nat, Int.tmod c (P.size : Int) = (J : Int) ∧ J < P.size := by
    obtain ⟨n, rfl⟩ := Int.eq_ofNat_of_zero_le HC.out.1
    exact ⟨n % P.size, by rw [Int.tmod_eq_emod_of_nonneg (by omega)]; rfl, Nat.mod_lt _ zp⟩
  obtain ⟨hJ1, hJ2⟩ := hJ
  have hw1 : wrap64 c = c := by have := HC.out; unfold wrap64; omega
  have hw2 : wrap64 (J : Int) = (J : Int) := by unfold wrap64; omega
  have hj0 : (0 : Int) ≤ (J : Int) := by omega
  have hj1 : (J : Int) ≤ (P.size : Int) := by omega
  have g1 := Get_none (P.extract 0 J) w5 (by have : (P.extract 0 J).size ≤ 6120 := by simp; omega
                                             omega) (key_cut HN.out.1 HP.out J hJ2)
  go_wp2_with fail
  refine g1.mono ?_
  rintro e w6 ⟨hb6, rfl⟩
  have hA6 : Below w6.heap.size w6 (w6.alloc (.cells #[.int .i64 0, .int .i64 0, .string ⟨#[]⟩, .slice none 0 0, .slice none 0 0] 28)) := (Below.refl _ _).alloc (Nat.le_refl _) _
  have hB6 : Below w.heap.size w w6 := HN.out.2.2.1.trans (hb6.mono HN.out.2.2.1.size)
  have hB6' := hB6.trans (hA6.mono hB6.size)
  have g2 := Get_none (P ++ Q) (w6.alloc (.cells #[.int .i64 0, .int .i64 0, .string ⟨#[]⟩, .slice none 0 0, .slice none 0 0] 28)) (by rw [ByteArray.size_append]; omega) (key_more HN.out.1 HP.out zq)
  have H6 := (show Hid _ from hB6')
  clear g1 hb6 hA6 hB6 hB6' hJ1 hJ2 hw1 hw2 hj0 hj1 hp0 hp1
  go_wp2_with fail
  refine g2.mono ?_
  rintro e w7 ⟨hb7, rfl⟩
  have hB7 := H6.out.trans (hb7.mono H6.out.size)
  have H7 : Hid (Below w.heap.size w (w7.alloc (.cells #[.int .i64 0, .int .i64 0, .string ⟨#[]⟩, .slice none 0 0, .slice none 0 0] 28))) := hB7.alloc hB7.size _
  clear g2 hb7 hB7 H6
  by_cases h1 : Q.size < P.size
  · have z1 : (Q.size : Int) < (P.size : Int) := by omega
    clear HN HP HQ
    go_wp2_with fail
    go_ret
    exact ⟨rfl, H7.out⟩
  · have z1 : ¬ (Q.size : Int) < (P.size : Int) := by omega
    have z2 : (0 : Int) ≤ (P.size : Int) := by omega
    have z3 : (P.size : Int) ≤ (Q.size : Int) := by omega
    have ha := key_apart HN.out.1 HN.out.2.1 HP.out HQ.out
    by_cases h2 : (Q.extract 0 P.size).toList = P.toList
    · have q1 : ((Q.extract 0 P.size).toList == P.toList) = true := by rw [h2]; simp
      have q2 : (P.toList == Q.toList) = true := by rw [ha h2]; simp
      clear HN HP HQ ha h2
      go_wp2_with fail
      go_ret
      exact ⟨rfl, H7.out⟩
    · have q1 : ((Q.extract 0 P.size).toList == P.toList) = false := by simpa using h2
      clear HN HP HQ ha h2
      go_wp2_with fail
      go_ret
      exact ⟨rfl, H7.out⟩
end Go.Proofs.YtehjdamdlokoaaaDoor
