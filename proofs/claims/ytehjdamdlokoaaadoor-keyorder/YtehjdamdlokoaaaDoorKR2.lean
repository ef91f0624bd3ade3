/-
  The program's reader of keys: numbers, texts. Conditions: as stated.
-/
import Derived.Test.YtehjdamdlokoaaaDoorKR1
import Derived.Test.YtehjdamdlokoaaaDoorKW3
namespace Go.Proofs.YtehjdamdlokoaaaDoor
open Go.RowKit

/-- a number of bytes, the highest first. -/
def numL (l : List UInt8) : Nat := l.foldl (fun a c => a * 256 + c.toNat) 0
theorem numL_snoc (l : List UInt8) (c : UInt8) : numL (l ++ [c]) = numL l * 256 + c.toNat := by simp [numL]
/-- what number answers. -/
def NumA (w0 : World) (b : Nat) (w : World) (N : Nat) (l : List UInt8) (e : Ending) (w' : World) : Prop :=
  KeptB b w w' ∧ ((l.length < N ∧ e = .returned (.tuple #[.int .i64 0, .bool false])) ∨ (N ≤ l.length ∧ e = .returned (.tuple #[.int .i64 (wrap64 (numL (l.take N) : Int)), .bool true]) ∧ RdK w0 b (l.drop N) w'))

theorem or_byte (U C : Int) (h0 : 0 ≤ U) (h1 : U < 72057594037927936) (c0 : 0 ≤ C) (c1 : C < 256) : bits .or .u64 (IntKind.u64.wrap (U * 256)) (IntKind.u64.wrap C) = U * 256 + C := by
  obtain ⟨u, rfl⟩ := Int.eq_ofNat_of_zero_le h0
  obtain ⟨c, rfl⟩ := Int.eq_ofNat_of_zero_le c0
  have e1 : IntKind.u64.wrap ((u : Int) * 256) = ((u * 256 : Nat) : Int) := by rw [IntKind.wrap_u64]; omega
  have e2 : IntKind.u64.wrap (c : Int) = (c : Int) := by rw [IntKind.wrap_u64]; omega
  rw [e1, e2]
  have k1 : (BitVec.ofInt 64 ((u * 256 : Nat) : Int)).toNat = u * 256 := by
    rw [BitVec.ofInt_natCast, BitVec.toNat_ofNat]; exact Nat.mod_eq_of_lt (by omega)
  have k2 : (BitVec.ofInt 64 (c : Int)).toNat = c := by
    rw [BitVec.ofInt_natCast, BitVec.toNat_ofNat]; exact Nat.mod_eq_of_lt (by omega)
  show IntKind.u64.wrap ((BitVec.ofInt 64 ((u * 256 : Nat) : Int) ||| BitVec.ofInt 64 (c : Int)).toNat : Int) = _
  have e3 := Nat.two_pow_add_eq_or_of_lt (i := 8) (b := c) (by omega) u
  rw [show (2 : Nat) ^ 8 = 256 from rfl] at e3
  rw [BitVec.toNat_or, k1, k2, Nat.mul_comm u 256, ← e3, IntKind.wrap_u64]
  omega

set_option maxRecDepth 100000 in
set_option maxHeartbeats 4000000 in
theorem number_any {w0 w : World} {b : Nat} {l : List UInt8} (R : RdK w0 b l w) (N : Nat) (hN : N ≤ 8) :
    Calls Tryd.prog 36 #[.pointer (some ⟨b, 0, none⟩), .int .i64 (N : Int)] w (NumA w0 b w N l) := by
  have HR := (show Hid _ from R)
  clear R
  go_enter Tryd.func36, Tryd.ntmps36
  go_wp2_with fail
  go_loopg [6, 7, 8, 10] N (fun gg u _ _ i wr => ∃ (k : Nat) (U : Int), k ≤ N ∧ N - k ≤ gg ∧ k ≤ l.length ∧ i = .int .i64 k ∧ u = .int .u64 U ∧ Aside ((numL (l.take k) : Int) = U ∧ 0 ≤ U ∧ U < 256 ^ k ∧ KeptB b w wr ∧ RdK w0 b (l.drop k) wr))
  case atStart => exact ⟨0, 0, Nat.zero_le _, by omega, Nat.zero_le _, rfl, rfl, rfl, by omega, by simp, KeptB.refl _ _, HR.out⟩
  case round =>
    obtain ⟨k, U, hk, hgg, hkl, rfl, rfl, A⟩ := hrel
    by_cases hlt : k < N
    · have zk : (k : Int) < (N : Int) := by omega
      obtain ⟨hU, hU0, hU1, K, R⟩ := A.out
      rcases hd : l.drop k with _ | ⟨c, r⟩
      · rw [hd] at R
        have hn := next_nil R
        have HK := (show Hid _ from And.intro K hd)
        clear hU hU0 hU1 K R hd
        go_wp2_with fail
        refine hn.mono ?_
        rintro e w1 ⟨rfl, rfl⟩
        clear hn
        go_wp2_with fail
        go_ret2
        refine ⟨HK.out.1, .inl ⟨?_, rfl⟩⟩
        have := congrArg List.length HK.out.2
        simp at this
        omega
      · rw [hd] at R
        have hn := next_cons R
        have hp : U < 72057594037927936 := by
          have : (256 : Int) ^ k ≤ 256 ^ 7 := by exact_mod_cast Nat.pow_le_pow_right (by decide) (by omega)
          have e : (256 : Int) ^ 7 = 72057594037927936 := by decide
          omega
        have HK := (show Hid _ from And.intro K (And.intro hd (And.intro hU (And.intro hU0 hU1))))
        have HP := (show Hid _ from And.intro hU0 hp)
        clear hU hU0 hU1 K R hd hp
        go_wp2_with fail
        refine hn.mono ?_
        rintro e w1 ⟨rfl, K1, R1⟩
        have H1 := (show Hid _ from And.intro K1 R1)
        clear hn K1 R1
        obtain ⟨C, hC⟩ : ∃ C : Int, (c.toNat : Int) = C := ⟨_, rfl⟩
        rw [hC]
        have HC := (show Hid _ from hC)
        clear hC
        go_wp2_with fail
        go_roundg (N - (k + 1))
        case measure => omega
        case rel =>
          obtain ⟨K, hd, hU, hU0, hU1⟩ := HK.out
          have hc : c.toNat < 256 := c.toNat_lt
          have hC := HC.out
          have hl : k < l.length := by
            have := congrArg List.length hd
            simp at this
            omega
          have hlk : l[k]? = some c := by
            have := congrArg (·[0]?) hd
            simpa using this
          have htk : l.take (k + 1) = l.take k ++ [c] := by rw [List.take_add_one, hlk]; rfl
          refine ⟨k + 1, U * 256 + C, by omega, by omega, by omega, by go_num, by rw [or_byte U C hU0 HP.out.2 (by omega) (by omega)], ?_, by omega, ?_, K.trans H1.out.1, ?_⟩
          · rw [htk, numL_snoc]
            omega
          · rw [Int.pow_succ]
            omega
          · have e : l.drop (k + 1) = r := by
              rw [← List.drop_drop, hd]; rfl
            rw [e]
            exact H1.out.2
    · have zk : ¬ (k : Int) < (N : Int) := by omega
      go_wp2_with fail
      go_ret2
      obtain ⟨hU, hU0, hU1, K, R⟩ := A.out
      have : k = N := by omega
      subst this
      exact ⟨K, .inr ⟨hkl, by rw [hU]; rfl, R⟩⟩

/-- a text that is written, read. -/
def ktextP : List UInt8 → Option (List UInt8 × List UInt8)
  | [] => none
  | c :: r =>
    if c = 0 then
      match r with
      | [] => none
      | d :: r' => if d = 1 then some ([], r') else if d = 255 then (ktextP r').map (fun p => (0 :: p.1, p.2)) else none
    else (ktextP r).map (fun p => (c :: p.1, p.2))
/-- what text answers. -/
def TxtA (w0 : World) (b : Nat) (w : World) (res : Option (List UInt8 × List UInt8)) (e : Ending) (w' : World) : Prop :=
  KeptB b w w' ∧ match res with
  | none => e = .returned (.tuple #[.string ⟨#[]⟩, .bool false])
  | some p => e = .returned (.tuple #[.string ⟨p.1.toArray⟩, .bool true]) ∧ RdK w0 b p.2 w'
/-- a reader of a text on its way. -/
structure TxS (w0 w : World) (b : Nat) (l : List UInt8) (s : Value) (pre : List UInt8) (wr : World) : Prop where
  rd : RdK w0 b l wr
  own : Ow w0 s pre wr
  kept : KeptB b w wr
  new : ∀ g, s.ownBlock = some g → w.heap.size ≤ g
  lt : b < w.heap.size
theorem TxS.read {w0 w wr w1 : World} {b : Nat} {l r : List UInt8} {s : Value} {pre : List UInt8} (h : TxS w0 w b l s pre wr) (K : KeptB b wr w1) (R : RdK w0 b r w1) : TxS w0 w b r s pre w1 := by
  have hlt := h.lt
  refine ⟨R, ⟨R.below, ownsRow_move (fun g hg hl => ⟨(h.own.own.lt g hg).1, K.block g hl ?_⟩) h.own.own⟩, h.kept.trans K, h.new, h.lt⟩
  have := h.new g hg
  omega
theorem TxS.app {w0 w wr w1 : World} {b : Nat} {l : List UInt8} {s s1 : Value} {pre more : List UInt8} (h : TxS w0 w b l s pre wr) (O : Ow w0 s1 (pre ++ more) w1) (K : Kp s wr s1 w1) : TxS w0 w b l s1 (pre ++ more) w1 := by
  have hlt := h.lt
  have hne : ∀ k, k < w.heap.size → s.ownBlock ≠ some k := fun k hk e => by
    have := h.new k e
    omega
  have hk := h.kept.size
  refine ⟨⟨O.below, h.rd.le, ?_, h.rd.len⟩, O, ⟨?_, ?_, ?_, Nat.le_trans hk K.size, fun k h1 h2 => (K.block k (by omega) (hne k h1)).trans (h.kept.block k h1 h2)⟩, fun g hg => ?_, h.lt⟩
  · obtain ⟨t, e, hr⟩ := h.rd.rd
    exact ⟨t, e, (K.block b (by omega) (hne b hlt)).trans hr⟩
  · exact (O.below.os.trans h.rd.below.os.symm).trans h.kept.os
  · exact (O.below.tape.trans h.rd.below.tape.symm).trans h.kept.tape
  · exact (O.below.output.trans h.rd.below.output.symm).trans h.kept.output
  · rcases K.own with e | ⟨g', e, hg'⟩
    · exact h.new g (e.symm.trans hg)
    · rw [e] at hg
      have := Option.some.inj hg
      omega

theorem ktextP_nil : ktextP [] = none := by unfold ktextP; rfl
theorem ktextP_zero_nil : ktextP [0] = none := by simp [ktextP]
theorem ktextP_shut (r : List UInt8) : ktextP (0 :: 1 :: r) = some ([], r) := by simp [ktextP]
theorem ktextP_stays (r : List UInt8) : ktextP (0 :: 255 :: r) = (ktextP r).map (fun p => (0 :: p.1, p.2)) := by simp [ktextP]
theorem ktextP_bad (d : UInt8) (r : List UInt8) (h1 : ¬ d = 1) (h2 : ¬ d = 255) : ktextP (0 :: d :: r) = none := by simp [ktextP, h1, h2]
theorem ktextP_more (c : UInt8) (r : List UInt8) (h : ¬ c = 0) : ktextP (c :: r) = (ktextP r).map (fun p => (c :: p.1, p.2)) := by rw [ktextP.eq_def]; simp only [if_neg h]
/-- what is read already stands ahead. -/
def ahead (pre : List UInt8) (o : Option (List UInt8 × List UInt8)) : Option (List UInt8 × List UInt8) := o.map (fun p => (pre ++ p.1, p.2))
theorem ahead_more (pre : List UInt8) (c : UInt8) (o : Option (List UInt8 × List UInt8)) : ahead pre (o.map (fun p => (c :: p.1, p.2))) = ahead (pre ++ [c]) o := by
  cases o <;> simp [ahead]

set_option maxRecDepth 100000 in
set_option maxHeartbeats 4000000 in
theorem text_any {w0 w : World} {b : Nat} {l : List UInt8} (R : RdK w0 b l w) :
    Calls Tryd.prog 38 #[.pointer (some ⟨b, 0, none⟩)] w (TxtA w0 b w (ktextP l)) := by
  obtain ⟨res, hres⟩ : ∃ r, ktextP l = r := ⟨_, rfl⟩
  rw [hres]
  have HR := (show Hid _ from And.intro R hres)
  clear R hres
  go_enter Tryd.func38, Tryd.ntmps38
  go_wp2_with fail
  go_loopg [4, 5, 6] (l.length + 1) (fun gg s4 _ _ wr => ∃ (l' pre : List UInt8), l'.length + 1 ≤ gg ∧ Aside (TxS w0 w b l' s4 pre wr ∧ ahead pre (ktextP l') = res ∧ pre.length + l'.length ≤ 1000000))
  case atStart =>
    obtain ⟨R, hres⟩ := HR.out
    refine ⟨l, [], by omega, ⟨R, Ow.nil R.below, KeptB.refl _ _, fun g hg => (by cases hg), R.lt⟩, ?_, by simpa using R.len⟩
    rw [hres]
    cases res <;> rfl
  case round =>
    obtain ⟨l', pre, hgg, A⟩ := hrel
    obtain ⟨T, hres, hlen⟩ := A.out
    rcases l' with _ | ⟨c, r⟩
    · have hn := next_nil T.rd
      clear T hres hlen HR
      go_wp2_with fail
      refine hn.mono ?_
      rintro e w1 ⟨rfl, rfl⟩
      clear hn
      go_wp2_with fail
      go_ret2
      obtain ⟨T, hres, hlen⟩ := A.out
      rw [ktextP_nil] at hres
      subst hres
      exact ⟨T.kept, rfl⟩
    · have hn := next_cons T.rd
      clear T hres hlen HR
      by_cases h0 : c = 0
      · subst h0
        go_wp2_with fail
        refine hn.mono ?_
        rintro e w1 ⟨rfl, K1, R1⟩
        have T1 := A.out.1.read K1 R1
        have H1 := (show Hid _ from T1)
        clear hn K1 R1 T1
        rcases r with _ | ⟨d, r⟩
        · have t1 := take_nil H1.out.rd 1
          have t2 := take_nil H1.out.rd 255
          go_wp2_with fail
          refine t1.mono ?_
          rintro e w2 ⟨rfl, rfl⟩
          clear t1
          go_wp2_with fail
          refine t2.mono ?_
          rintro e w3 ⟨rfl, rfl⟩
          clear t2
          go_wp2_with fail
          go_ret2
          obtain ⟨T, hres, hlen⟩ := A.out
          rw [ktextP_zero_nil] at hres
          subst hres
          exact ⟨H1.out.kept, rfl⟩
        · by_cases h1 : d = 1
          · subst h1
            have t1 := take_yes H1.out.rd 1 rfl
            go_wp2_with fail
            refine t1.mono ?_
            rintro e w2 ⟨rfl, K2, R2⟩
            have T2 := H1.out.read K2 R2
            have hs := own_string T2.own
            have H2 := (show Hid _ from T2)
            clear t1 K2 R2 T2
            go_wp2_with fail
            go_ret2
            obtain ⟨T, hres, hlen⟩ := A.out
            rw [ktextP_shut] at hres
            subst hres
            refine ⟨H2.out.kept, ?_, H2.out.rd⟩
            simp
          · have hd1 : ¬ (d.toNat : Int) = 1 := fun e => h1 (UInt8.toNat_inj.1 (show d.toNat = 1 by omega))
            have t1 := take_no H1.out.rd 1 hd1
            clear hd1
            go_wp2_with fail
            refine t1.mono ?_
            rintro e w2 ⟨rfl, rfl⟩
            clear t1
            by_cases h2 : d = 255
            · subst h2
              have t2 := take_yes H1.out.rd 255 rfl
              go_wp2_with fail
              refine t2.mono ?_
              rintro e w3 ⟨rfl, K3, R3⟩
              have T3 := H1.out.read K3 R3
              have H3 := (show Hid _ from T3)
              have HB : Hid (pre.length + 1 ≤ 1000000) := by have := A.out.2.2; simp only [List.length_cons] at this; show _ ≤ _; omega
              clear t2 K3 R3 T3
              go_wp2_with (first | (at_builtin; refine append_bytes rfl (.tmp 23) (.tmp 25) rfl H3.out.own [0] _ 1 rfl (by decide) rfl rfl rfl (by have := HB.out; omega) ?_; intro s1 u1 h1 k1; have H4 := (show Hid _ from H3.out.app h1 k1); clear h1 k1))
              go_roundg (r.length + 1)
              case measure => simp only [List.length_cons] at hgg; omega
              case rel =>
                obtain ⟨T, hres, hlen⟩ := A.out
                refine ⟨r, pre ++ [0], Nat.le_refl _, H4.out, ?_, ?_⟩
                · rw [ktextP_stays, ahead_more] at hres
                  exact hres
                · simp only [List.length_cons, List.length_append, List.length_nil] at hlen ⊢
                  omega
            · have hd2 : ¬ (d.toNat : Int) = 255 := fun e => h2 (UInt8.toNat_inj.1 (show d.toNat = 255 by omega))
              have t2 := take_no H1.out.rd 255 hd2
              clear hd2
              go_wp2_with fail
              refine t2.mono ?_
              rintro e w3 ⟨rfl, rfl⟩
              clear t2
              go_wp2_with fail
              go_ret2
              obtain ⟨T, hres, hlen⟩ := A.out
              rw [ktextP_bad d r h1 h2] at hres
              subst hres
              exact ⟨H1.out.kept, rfl⟩
      · have hne : ((c.toNat : Int) == 0) = false := by
          simp
          intro e
          exact h0 (UInt8.toNat_inj.1 (by simpa using e))
        have HB : Hid (pre.length + 1 ≤ 1000000) := by have := A.out.2.2; simp only [List.length_cons] at this; show _ ≤ _; omega
        have HC := (show Hid _ from h0)
        clear h0
        go_wp2_with fail
        refine hn.mono ?_
        rintro e w1 ⟨rfl, K1, R1⟩
        have T1 := A.out.1.read K1 R1
        have H1 := (show Hid _ from T1)
        clear hn K1 R1 T1
        go_wp2_with (first | (at_builtin; refine append_bytes rfl (.tmp 23) (.tmp 25) rfl H1.out.own [c] _ 1 rfl (by decide) rfl rfl rfl (by have := HB.out; omega) ?_; intro s1 u1 h1 k1; have H4 := (show Hid _ from H1.out.app h1 k1); clear h1 k1))
        go_roundg (r.length + 1)
        case measure => simp only [List.length_cons] at hgg; omega
        case rel =>
          obtain ⟨T, hres, hlen⟩ := A.out
          refine ⟨r, pre ++ [c], Nat.le_refl _, H4.out, ?_, ?_⟩
          · rw [ktextP_more c r HC.out, ahead_more] at hres
            exact hres
          · simp only [List.length_cons, List.length_append, List.length_nil] at hlen ⊢
            omega
end Go.Proofs.YtehjdamdlokoaaaDoor
