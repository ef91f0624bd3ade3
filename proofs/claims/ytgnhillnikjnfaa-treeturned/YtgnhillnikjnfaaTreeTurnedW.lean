/-
  TreeTurned's walk. No conditions beyond those stated.
-/
import Derived.Test.YtgnhillnikjnfaaBBoth
namespace Go.Proofs.Ytgnhillnikjnfaa
open Go.RowKit

/-- in whichever order: the same ones. -/
theorem turned_same {al : List Ac} {N : Nat} {l m : List En} (_hN : al.length = N) (hs : SortE l) (hs2 : SortE m) (hl : ∀ x, x ∈ l ↔ ∃ (j : Nat) (e : Ac), j < N ∧ al[j]? = some e ∧ x = e.ent) (hm : ∀ x, x ∈ m ↔ ∃ (j : Nat) (e : Ac), j < N ∧ al[N - 1 - j]? = some e ∧ x = e.ent) : l = m := by
  refine sort_ext hs hs2 fun x => ?_
  rw [hl, hm]
  constructor
  · rintro ⟨j, e, hj, he, rfl⟩
    exact ⟨N - 1 - j, e, by omega, by rw [show N - 1 - (N - 1 - j) = j by omega]; exact he, rfl⟩
  · rintro ⟨j, e, hj, he, rfl⟩
    exact ⟨N - 1 - j, e, by omega, he, rfl⟩
theorem mem_step {al : List Ac} {k : Nat} {f : Nat → Nat} {l : List En} {e : Ac} (hl : ∀ x, x ∈ l ↔ ∃ (j : Nat) (e : Ac), j < k ∧ al[f j]? = some e ∧ x = e.ent) (he : al[f k]? = some e) : ∀ x, x ∈ insE e.ent l ↔ ∃ (j : Nat) (e : Ac), j < k + 1 ∧ al[f j]? = some e ∧ x = e.ent := by
  intro x
  rw [mem_insE, hl]
  constructor
  · rintro (rfl | ⟨j, e', hj, h1, h2⟩)
    · exact ⟨k, e, by omega, he, rfl⟩
    · exact ⟨j, e', by omega, h1, h2⟩
  · rintro ⟨j, e', hj, h1, h2⟩
    by_cases hjk : j = k
    · subst hjk
      rw [he] at h1
      cases h1
      exact .inl h2
    · exact .inr ⟨j, e', by omega, h1, h2⟩
set_option maxRecDepth 100000 in
set_option maxHeartbeats 8000000 in
theorem TreeTurned_walk (v0 : Value) (acts : List Ac) (w : World) (ha : ActsAt w v0 acts) :
    Calls Try.prog 7 #[v0] w fun e w' => e = .returned (.bool true) ∧ Below w.heap.size w w' := by
  obtain ⟨a, cap, rfl, hc1, hc2⟩ := ha.slice
  have hat := ha.take 100
  obtain ⟨N, hN⟩ : ∃ N, min 100 acts.length = N := ⟨_, rfl⟩
  rw [hN] at hat
  have hNl : (acts.take 100).length = N := by rw [List.length_take, hN]
  obtain ⟨al, has⟩ : ∃ al, acts.take 100 = al := ⟨_, rfl⟩
  rw [has] at hat hNl
  have hm0 : 0 ≤ min (acts.length : Int) 100 := by omega
  have hm1 : min (acts.length : Int) 100 ≤ (cap : Int) := by omega
  have hmn : (min (acts.length : Int) 100).toNat = N := by omega
  have hN80 : N ≤ 100 := by omega
  have hNc : N ≤ cap := by omega
  have HH := (show Hid _ from And.intro hat hNl)
  have haw := awake_any w
  clear hat ha has hN hNl
  go_enter Try.func7, Try.ntmps7
  go_wp2_with fail
  refine haw.mono ?_
  rintro e w1 ⟨rfl, hB1⟩
  clear haw
  go_wp2_with fail
  refine (New_any w1).mono ?_
  rintro e w2 ⟨T, rfl, ht2, hb2⟩
  have H2 := (show Hid _ from And.intro hB1 (And.intro ht2 hb2))
  clear ht2 hb2 hB1
  go_wp2_with fail
  refine (New_any w2).mono ?_
  rintro e w3 ⟨U, rfl, ht3, hb3⟩
  have H3 : Hid (Two w w3 T U [] []) := Two.new H2.out.1 H2.out.2.1 H2.out.2.2 ht3 hb3
  clear ht3 hb3 H2
  go_wp2_with fail
  go_loopg [5, 23] N (fun gg _ i wr => ∃ (k : Nat) (l m : List En), k ≤ N ∧ N - k ≤ gg ∧ i = .int .i64 k ∧ Aside (Two w wr T U l m ∧ l.length ≤ k ∧ m.length ≤ k ∧ (∀ x, x ∈ l ↔ ∃ (j : Nat) (e : Ac), j < k ∧ al[j]? = some e ∧ x = e.ent) ∧ (∀ x, x ∈ m ↔ ∃ (j : Nat) (e : Ac), j < k ∧ al[N - 1 - j]? = some e ∧ x = e.ent)))
  case atStart => exact ⟨0, [], [], Nat.zero_le _, by omega, rfl, H3.out, Nat.le_refl _, Nat.le_refl _, fun x => ⟨(fun h => by cases h), (fun ⟨j, e, hj, _⟩ => by omega)⟩, fun x => ⟨(fun h => by cases h), (fun ⟨j, e, hj, _⟩ => by omega)⟩⟩
  case round =>
    obtain ⟨k, l, m, hk, hgg, rfl, A⟩ := hrel
    obtain ⟨hT, hl, hm, hlx, hmx⟩ := A.out
    clear A H3
    by_cases hlt : k < N
    · obtain ⟨hat, hNl⟩ := HH.out
      obtain ⟨e1, he1⟩ : ∃ e, al[k]? = some e := ⟨_, List.getElem?_eq_getElem (by omega)⟩
      obtain ⟨e2, he2⟩ : ∃ e, al[N - 1 - k]? = some e := ⟨_, List.getElem?_eq_getElem (by omega)⟩
      have hlx1 := mem_step (f := fun j => j) hlx he1
      have hmx1 := mem_step (f := fun j => N - 1 - j) hmx he2
      obtain ⟨b, o, rfl, hok1, c0, c1, c2⟩ := (hat.below hT.below).at he1
      have HAT := (show Hid _ from And.intro hat (And.intro he1 he2))
      have zk : (k : Int) < (N : Int) := by omega
      have hent := Ent_any e1 hok1 wr
      obtain ⟨⟨ek, ei⟩, hee⟩ : ∃ x, e1.ent = x := ⟨_, rfl⟩
      rw [hee] at hent hlx1
      have HE := (show Hid _ from hent)
      have H4 := (show Hid _ from And.intro hT (And.intro hl (And.intro hm (And.intro hlx1 (And.intro hmx1 (And.intro hk hgg))))))
      clear hat hNl he1 he2 hT hl hm hlx hmx hlx1 hmx1 hent hok1 hk hgg hee
      go_wp2_with fail
      refine Calls.mono HE.out ?_
      rintro e w5 ⟨rfl, hb5⟩
      have hadd := (H4.out.1.same hb5).add (ek, ei) (by have := H4.out.2.1; omega)
      have HA := (show Hid _ from hadd)
      clear hadd hb5 HE c0 c1 c2
      go_wp2_with fail
      refine Calls.mono HA.out ?_
      rintro e w6 ⟨rfl, ht6⟩
      obtain ⟨b', o', hbo, hok2, c0, c1, c2⟩ := (HAT.out.1.below ht6.below).at HAT.out.2.2
      obtain ⟨rfl, rfl⟩ : b = b' ∧ o = o' := by
        simp only [Option.some.injEq, Addr.mk.injEq, and_true] at hbo; exact hbo
      have hent := Ent_any e2 hok2 w6
      obtain ⟨⟨fk, fi⟩, hee⟩ : ∃ x, e2.ent = x := ⟨_, rfl⟩
      rw [hee] at hent
      have HE := (show Hid _ from hent)
      have HF := (show Hid _ from hee)
      have H6 : Hid (Two w w6 T U (insE (ek, ei) l) m) := ht6
      have zi : (N : Int) - 1 - (k : Int) = ((N - 1 - k : Nat) : Int) := by omega
      have zlt : N - 1 - k < N := by omega
      clear ht6 hent hee hbo hok2 HA
      go_wp2_with fail
      refine Calls.mono HE.out ?_
      rintro e w7 ⟨rfl, hb7⟩
      have hadd := (H6.out.same hb7).turn.add (fk, fi) (by have := H4.out.2.2.1; omega)
      have HA := (show Hid _ from hadd)
      clear hadd hb7 HE c0 c1 c2 H6
      go_wp2_with fail
      refine Calls.mono HA.out ?_
      rintro e w8 ⟨rfl, ht8⟩
      have H8 : Hid (Two w w8 T U (insE (ek, ei) l) (insE (fk, fi) m)) := Two.turn ht8
      clear ht8 HA
      go_wp2
      go_roundg (N - (k + 1))
      case measure => (have := H4.out.2.2.2.2.2.2; omega)
      case rel =>
        obtain ⟨-, h2, h3, h4, h5, h6, h7⟩ := H4.out
        rw [HF.out] at h5
        have q1 := len_with (ek, ei) false l
        have q2 := len_with (fk, fi) false m
        exact ⟨k + 1, _, _, by omega, by omega, by simp, H8.out, by show (withL _ _ _).length ≤ _; omega, by show (withL _ _ _).length ≤ _; omega, h4, h5⟩
    · obtain rfl : N = k := by omega
      have hNl := HH.out.2
      have hlm : l = m := turned_same hNl hT.left.choose_spec.sort hT.turn.left.choose_spec.sort hlx hmx
      subst hlm
      obtain ⟨F, hF⟩ := hT.left
      have hall := All_any wr hF (by omega)
      have HC := (show Hid _ from hall)
      have HT : Hid (Two w wr T U l l) := hT
      have HL : Hid (l.length ≤ N) := hl
      have zk : ¬ (N : Int) < (N : Int) := by omega
      clear hT hl hm hlx hmx hNl hall hF hgg hk hlt hm0 hm1 hmn
      go_wp2_with fail
      refine Calls.mono HC.out ?_
      rintro e w5 ⟨v5, rfl, B5, ho5⟩
      have H5 : Hid (OwE wr B5 v5 l w5) := ho5
      obtain ⟨G, hG⟩ := (HT.out.same ho5.below).turn.left
      have hall := All_any w5 hG (by have := HL.out; omega)
      have HC2 := (show Hid _ from hall)
      clear hall hG ho5 HC
      go_wp2_with fail
      refine Calls.mono HC2.out ?_
      rintro e w6 ⟨v6, rfl, B6, ho6⟩
      have hsame := Same_any l l B5 B6 v5 v6 w6 (H5.out.same ho6.below).own ho6.own (by have := HL.out; omega)
      rw [decide_eq_true rfl] at hsame
      have HS := (show Hid _ from hsame)
      have H6 : Hid (Two w w6 T U l l) := (HT.out.same H5.out.below).same ho6.below
      clear hsame ho6 HC2 H5 HT
      go_wp2_with fail
      refine Calls.mono HS.out ?_
      rintro e w7 ⟨rfl, hb7⟩
      have H7 : Hid (Two w w7 T U l l) := H6.out.same hb7
      obtain ⟨G2, hG2⟩ := H7.out.turn.left
      have hright := right_any w7 hG2 (by have := HL.out; omega)
      have HR := (show Hid _ from hright)
      clear hright hG2 hb7 HS H6
      go_wp2_with fail
      refine Calls.mono HR.out ?_
      rintro e w8 ⟨rfl, hb8⟩
      have H8 : Hid (Two w w8 T U l l) := H7.out.same hb8
      clear hb8 HR H7
      go_wp2
      go_ret
      exact ⟨rfl, H8.out.below⟩
end Go.Proofs.Ytgnhillnikjnfaa
