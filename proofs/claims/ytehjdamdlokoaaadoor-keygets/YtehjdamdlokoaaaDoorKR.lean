/-
  The program's reader of keys: bytes, numbers, texts, rows. Conditions: as stated.
-/
import Derived.Test.YtehjdamdlokoaaaDoorKW
import Derived.Test.YtehjdamdlokoaaaDoorVQ
import Derived.Lib.Bytes2
import Derived.Test.YtehjdamdlokoaaaDoorVMade4
namespace Go.Proofs.YtehjdamdlokoaaaDoor
open Go.RowKit

/-- all that was there is as it was, but for one block. -/
structure KeptB (b : Nat) (w w' : World) : Prop where
  os : w'.os = w.os
  tape : w'.tape = w.tape
  output : w'.output = w.output
  size : w.heap.size ≤ w'.heap.size
  block : ∀ k, k < w.heap.size → k ≠ b → w'.heap[k]? = w.heap[k]?
theorem KeptB.refl (b : Nat) (w : World) : KeptB b w w := ⟨rfl, rfl, rfl, Nat.le_refl _, fun _ _ _ => rfl⟩
theorem KeptB.trans {b : Nat} {x y z : World} (h : KeptB b x y) (k : KeptB b y z) : KeptB b x z :=
  ⟨k.os.trans h.os, k.tape.trans h.tape, k.output.trans h.output, Nat.le_trans h.size k.size, fun i hi hb => (k.block i (Nat.lt_of_lt_of_le hi h.size) hb).trans (h.block i hi hb)⟩
theorem KeptB.of_below {b : Nat} {w w' : World} (h : Below w.heap.size w w') : KeptB b w w' := ⟨h.os, h.tape, h.output, h.size, fun k hk _ => h.block k hk⟩
theorem KeptB.below {b B : Nat} {w w' : World} (h : KeptB b w w') (hB : B ≤ b) (hw : B ≤ w.heap.size) : Below B w w' := ⟨h.os, h.tape, h.output, h.size, fun k hk => h.block k (by omega) (by omega)⟩
theorem KeptB.set {b o : Nat} {v : Value} (w : World) : KeptB b w (w.setCell ⟨b, o, none⟩ v) :=
  ⟨rfl, rfl, rfl, by simp [World.setCell], fun k _ hk => Below.heap_setCell _ _ _ _ hk⟩
/-- a reader with so much left. -/
structure RdK (w0 : World) (b : Nat) (l : List UInt8) (w : World) : Prop where
  below : Below w0.heap.size w0 w
  le : w0.heap.size ≤ b
  rd : ∃ s : ByteArray, s.data.toList = l ∧ w.heap[b]? = some (.cells #[.string s] 54 (0, 0))
  len : l.length ≤ 1000000
theorem RdK.lt {w0 : World} {b : Nat} {l : List UInt8} {w : World} (h : RdK w0 b l w) : b < w.heap.size := by
  obtain ⟨s, _, h⟩ := h.rd
  exact lt_of_heap h
theorem RdK.same {w0 : World} {b : Nat} {l : List UInt8} {w w' : World} (h : RdK w0 b l w) (hb : Below w.heap.size w w') : RdK w0 b l w' := by
  refine ⟨h.below.trans (hb.mono h.below.size), h.le, ?_, h.len⟩
  obtain ⟨s, e, h⟩ := h.rd
  exact ⟨s, e, (hb.block _ (lt_of_heap h)).trans h⟩
theorem RdK.set {w0 : World} {b : Nat} {l m : List UInt8} {w : World} {s : ByteArray} (h : RdK w0 b l w) (hs : s.data.toList = m) (hm : m.length ≤ l.length) : RdK w0 b m (w.setCell ⟨b, 0, none⟩ (.string s)) := by
  refine ⟨h.below.trans ((KeptB.set w).below h.le h.below.size), h.le, ⟨s, hs, ?_⟩, Nat.le_trans hm h.len⟩
  obtain ⟨s', _, h⟩ := h.rd
  simp [World.setCell, Array.getElem?_modify, h]

theorem ba_nil {s : ByteArray} (h : s.data.toList = []) : s = ⟨#[]⟩ := by
  cases s with
  | mk d =>
    simp at h
    rw [h]
theorem ba_size (s : ByteArray) : s.size = s.data.toList.length := by simp
theorem ba_tail {s : ByteArray} {c : UInt8} {r : List UInt8} (h : s.data.toList = c :: r) : (s.extract 1 s.size).data.toList = r := by
  have hs := ba_size s
  rw [h, List.length_cons] at hs
  have e : (s.extract 1 s.size).data.toList = List.take (s.size - 1) r := by simp [h]
  rw [e]
  exact List.take_of_length_le (by omega)
theorem cellK {w : World} {b : Nat} {cs : Array Value} {t : TypeId} {x : Value} {k : Nat} (h : w.heap[b]? = some (.cells cs t (0, 0))) (hk : cs[k]? = some x) : w.cell? ⟨b, k, none⟩ = some x := by
  simp only [World.cell?, h]
  exact hk

set_option maxHeartbeats 1000000 in
theorem next_nil {w0 : World} {b : Nat} {w : World} (R : RdK w0 b [] w) :
    Calls Tryd.prog 35 #[.pointer (some ⟨b, 0, none⟩)] w fun e w' => e = .returned (.tuple #[.int .u8 0, .bool false]) ∧ w' = w := by
  obtain ⟨s, hs, hr⟩ := R.rd
  obtain rfl := ba_nil hs
  have c0 : w.cell? ⟨b, 0, none⟩ = some (.string ⟨#[]⟩) := cellK hr rfl
  have hb := R.lt
  clear R hs hr
  go_enter Tryd.func35, Tryd.ntmps35
  go_wp2_with fail
  go_ret2
  exact ⟨rfl, rfl⟩
/-- what a reader that has something left is. -/
theorem RdK.cons {w0 : World} {b : Nat} {w : World} {c : UInt8} {r : List UInt8} (R : RdK w0 b (c :: r) w) : ∃ s : ByteArray, ∃ hpos : 0 < s.size, s[0]'hpos = c ∧ w.cell? ⟨b, 0, none⟩ = some (.string s) ∧ w.frozen? ⟨b, 0, none⟩ = false ∧ s.toList.isEmpty = false ∧ (1 : Int) ≤ (s.size : Int) ∧ (s.extract 1 s.size).data.toList = r := by
  obtain ⟨s, hs, hr⟩ := R.rd
  have hpos : 0 < s.size := by rw [ba_size, hs]; simp
  refine ⟨s, hpos, ?_, cellK hr rfl, by simp [World.frozen?, hr], ?_, by omega, ba_tail hs⟩
  · have h2 : s.data.toList[0]'(by rw [hs]; simp) = c := by simp [hs]
    exact h2
  · have e : s.toList = c :: r := by rw [← hs]; exact Lib.toList_data s
    rw [e]; rfl
set_option maxHeartbeats 1000000 in
theorem next_cons {w0 : World} {b : Nat} {w : World} {c : UInt8} {r : List UInt8} (R : RdK w0 b (c :: r) w) :
    Calls Tryd.prog 35 #[.pointer (some ⟨b, 0, none⟩)] w fun e w' => e = .returned (.tuple #[.int .u8 (c.toNat : Int), .bool true]) ∧ KeptB b w w' ∧ RdK w0 b r w' := by
  obtain ⟨s, hpos, hx, c0, cf, hne, z2, hT⟩ := R.cons
  have hb := R.lt
  have z1 : (0 : Int) < (s.size : Int) := by omega
  have HR := (show Hid _ from And.intro R hT)
  clear R hT
  go_enter Tryd.func35, Tryd.ntmps35
  go_wp2_with fail
  go_ret2
  exact ⟨rfl, KeptB.set _, HR.out.1.set HR.out.2 (by simp)⟩

set_option maxHeartbeats 1000000 in
theorem take_nil {w0 : World} {b : Nat} {w : World} (R : RdK w0 b [] w) (c : Int) :
    Calls Tryd.prog 48 #[.pointer (some ⟨b, 0, none⟩), .int .u8 c] w fun e w' => e = .returned (.bool false) ∧ w' = w := by
  obtain ⟨s, hs, hr⟩ := R.rd
  obtain rfl := ba_nil hs
  have c0 : w.cell? ⟨b, 0, none⟩ = some (.string ⟨#[]⟩) := cellK hr rfl
  have hb := R.lt
  clear R hs hr
  go_enter Tryd.func48, Tryd.ntmps48
  go_wp2_with fail
  go_ret
  exact ⟨rfl, rfl⟩
set_option maxHeartbeats 1000000 in
theorem take_no {w0 : World} {b : Nat} {w : World} {c : UInt8} {r : List UInt8} (R : RdK w0 b (c :: r) w) (d : Int) (hd : ¬ (c.toNat : Int) = d) :
    Calls Tryd.prog 48 #[.pointer (some ⟨b, 0, none⟩), .int .u8 d] w fun e w' => e = .returned (.bool false) ∧ w' = w := by
  obtain ⟨s, hpos, hx, c0, cf, hne, z2, hT⟩ := R.cons
  have hb := R.lt
  have z1 : (0 : Int) < (s.size : Int) := by omega
  have hcd : ((c.toNat : Int) == d) = false := by simpa using hd
  have hcd2 : ((c.toNat : Int) != d) = true := by simpa using hd
  clear R hT hd
  go_enter Tryd.func48, Tryd.ntmps48
  go_wp2_with fail
  go_ret
  exact ⟨rfl, rfl⟩
set_option maxHeartbeats 1000000 in
theorem take_yes {w0 : World} {b : Nat} {w : World} {c : UInt8} {r : List UInt8} (R : RdK w0 b (c :: r) w) (d : Int) (hd : (c.toNat : Int) = d) :
    Calls Tryd.prog 48 #[.pointer (some ⟨b, 0, none⟩), .int .u8 d] w fun e w' => e = .returned (.bool true) ∧ KeptB b w w' ∧ RdK w0 b r w' := by
  subst hd
  obtain ⟨s, hpos, hx, c0, cf, hne, z2, hT⟩ := R.cons
  have hb := R.lt
  have z1 : (0 : Int) < (s.size : Int) := by omega
  have HR := (show Hid _ from And.intro R hT)
  clear R hT
  go_enter Tryd.func48, Tryd.ntmps48
  go_wp2_with fail
  go_ret
  exact ⟨rfl, KeptB.set _, HR.out.1.set HR.out.2 (by simp)⟩

/-- a number of bytes, the highest first. -/
def numL (l : List UInt8) : Nat := l.foldl (fun a c => a * 256 + c.toNat) 0
theorem numL_snoc (l : List UInt8) (c : UInt8) : numL (l ++ [c]) = numL l * 256 + c.toNat := by simp [numL]
/-- what number answers. -/
def NumA (w0 : World) (b : Nat) (w : World) (N : Nat) (l : List UInt8) (e : Ending) (w' : World) : Prop :=
  KeptB b w w' ∧ ((l.length < N ∧ e = .returned (.tuple #[.int .i64 0, .bool false])) ∨ (N ≤ l.length ∧ e = .returned (.tuple #[.int .i64 (wrap64 (numL (l.take N) : Int)), .bool true]) ∧ RdK w0 b (l.drop N) w'))

theorem or_byte (U C : Int) (h0 : 0 ≤ U) (h1 : U < 72057594037927936) (c0 : 0 ≤ C) (c1 : C < 256) : bits .or .u64 (IntKind.u64.wrap (U * 256)) (IntKind.u64.wrap C) = U * 256 + C := by
  obtain ⟨u, rfl⟩ := Int.eq_ofNat_of_zero_le h0
  obtain ⟨c, rfl⟩ := Int.eq_ofNat_of_zero_le c0
  have e1 : IntKind.u64.wrap ((u : Int) * 256) = ((u * 256 : Nat) : Int) := by rw [IntKind.wrap_u64]; omega
  have e2 : IntKind.u64.wrap (c : Int) = (c : Int) := by rw [IntKind.wrap_u64]; omega
  rw [e1, e2]
  have k1 : (BitVec.ofInt 64 ((u * 256 : Nat) : Int)).toNat = u * 256 := by
    rw [BitVec.ofInt_natCast, BitVec.toNat_ofNat]; exact Nat.mod_eq_of_lt (by omega)
  have k2 : (BitVec.ofInt 64 (c : Int)).toNat = c := by
    rw [BitVec.ofInt_natCast, BitVec.toNat_ofNat]; exact Nat.mod_eq_of_lt (by omega)
  show IntKind.u64.wrap ((BitVec.ofInt 64 ((u * 256 : Nat) : Int) ||| BitVec.ofInt 64 (c : Int)).toNat : Int) = _
  have e3 := Nat.two_pow_add_eq_or_of_lt (i := 8) (b := c) (by omega) u
  rw [show (2 : Nat) ^ 8 = 256 from rfl] at e3
  rw [BitVec.toNat_or, k1, k2, Nat.mul_comm u 256, ← e3, IntKind.wrap_u64]
  omega

set_option maxRecDepth 100000 in
set_option maxHeartbeats 4000000 in
theorem number_any {w0 w : World} {b : Nat} {l : List UInt8} (R : RdK w0 b l w) (N : Nat) (hN : N ≤ 8) :
    Calls Tryd.prog 36 #[.pointer (some ⟨b, 0, none⟩), .int .i64 (N : Int)] w (NumA w0 b w N l) := by
  have HR := (show Hid _ from R)
  clear R
  go_enter Tryd.func36, Tryd.ntmps36
  go_wp2_with fail
  go_loopg [6, 7, 8, 10] N (fun gg u _ _ i wr => ∃ (k : Nat) (U : Int), k ≤ N ∧ N - k ≤ gg ∧ k ≤ l.length ∧ i = .int .i64 k ∧ u = .int .u64 U ∧ Aside ((numL (l.take k) : Int) = U ∧ 0 ≤ U ∧ U < 256 ^ k ∧ KeptB b w wr ∧ RdK w0 b (l.drop k) wr))
  case atStart => exact ⟨0, 0, Nat.zero_le _, by omega, Nat.zero_le _, rfl, rfl, rfl, by omega, by simp, KeptB.refl _ _, HR.out⟩
  case round =>
    obtain ⟨k, U, hk, hgg, hkl, rfl, rfl, A⟩ := hrel
    by_cases hlt : k < N
    · have zk : (k : Int) < (N : Int) := by omega
      obtain ⟨hU, hU0, hU1, K, R⟩ := A.out
      rcases hd : l.drop k with _ | ⟨c, r⟩
      · rw [hd] at R
        have hn := next_nil R
        have HK := (show Hid _ from And.intro K hd)
        clear hU hU0 hU1 K R hd
        go_wp2_with fail
        refine hn.mono ?_
        rintro e w1 ⟨rfl, rfl⟩
        clear hn
        go_wp2_with fail
        go_ret2
        refine ⟨HK.out.1, .inl ⟨?_, rfl⟩⟩
        have := congrArg List.length HK.out.2
        simp at this
        omega
      · rw [hd] at R
        have hn := next_cons R
        have hp : U < 72057594037927936 := by
          have : (256 : Int) ^ k ≤ 256 ^ 7 := by exact_mod_cast Nat.pow_le_pow_right (by decide) (by omega)
          have e : (256 : Int) ^ 7 = 72057594037927936 := by decide
          omega
        have HK := (show Hid _ from And.intro K (And.intro hd (And.intro hU (And.intro hU0 hU1))))
        have HP := (show Hid _ from And.intro hU0 hp)
        clear hU hU0 hU1 K R hd hp
        go_wp2_with fail
        refine hn.mono ?_
        rintro e w1 ⟨rfl, K1, R1⟩
        have H1 := (show Hid _ from And.intro K1 R1)
        clear hn K1 R1
        obtain ⟨C, hC⟩ : ∃ C : Int, (c.toNat : Int) = C := ⟨_, rfl⟩
        rw [hC]
        have HC := (show Hid _ from hC)
        clear hC
        go_wp2_with fail
        go_roundg (N - (k + 1))
        case measure => omega
        case rel =>
          obtain ⟨K, hd, hU, hU0, hU1⟩ := HK.out
          have hc : c.toNat < 256 := c.toNat_lt
          have hC := HC.out
          have hl : k < l.length := by
            have := congrArg List.length hd
            simp at this
            omega
          have hlk : l[k]? = some c := by
            have := congrArg (·[0]?) hd
            simpa using this
          have htk : l.take (k + 1) = l.take k ++ [c] := by rw [List.take_add_one, hlk]; rfl
          refine ⟨k + 1, U * 256 + C, by omega, by omega, by omega, by go_num, by rw [or_byte U C hU0 HP.out.2 (by omega) (by omega)], ?_, by omega, ?_, K.trans H1.out.1, ?_⟩
          · rw [htk, numL_snoc]
            omega
          · rw [Int.pow_succ]
            omega
          · have e : l.drop (k + 1) = r := by
              rw [← List.drop_drop, hd]; rfl
            rw [e]
            exact H1.out.2
    · have zk : ¬ (k : Int) < (N : Int) := by omega
      go_wp2_with fail
      go_ret2
      obtain ⟨hU, hU0, hU1, K, R⟩ := A.out
      have : k = N := by omega
      subst this
      exact ⟨K, .inr ⟨hkl, by rw [hU]; rfl, R⟩⟩

/-- a text that is written, read. -/
def ktextP : List UInt8 → Option (List UInt8 × List UInt8)
  | [] => none
  | c :: r =>
    if c = 0 then
      match r with
      | [] => none
      | d :: r' => if d = 1 then some ([], r') else if d = 255 then (ktextP r').map (fun p => (0 :: p.1, p.2)) else none
    else (ktextP r).map (fun p => (c :: p.1, p.2))
/-- what text answers. -/
def TxtA (w0 : World) (b : Nat) (w : World) (res : Option (List UInt8 × List UInt8)) (e : Ending) (w' : World) : Prop :=
  KeptB b w w' ∧ match res with
  | none => e = .returned (.tuple #[.string ⟨#[]⟩, .bool false])
  | some p => e = .returned (.tuple #[.string ⟨p.1.toArray⟩, .bool true]) ∧ RdK w0 b p.2 w'
/-- a reader of a text on its way. -/
structure TxS (w0 w : World) (b : Nat) (l : List UInt8) (s : Value) (pre : List UInt8) (wr : World) : Prop where
  rd : RdK w0 b l wr
  own : Ow w0 s pre wr
  kept : KeptB b w wr
  new : ∀ g, s.ownBlock = some g → w.heap.size ≤ g
  lt : b < w.heap.size
theorem TxS.read {w0 w wr w1 : World} {b : Nat} {l r : List UInt8} {s : Value} {pre : List UInt8} (h : TxS w0 w b l s pre wr) (K : KeptB b wr w1) (R : RdK w0 b r w1) : TxS w0 w b r s pre w1 := by
  have hlt := h.lt
  refine ⟨R, ⟨R.below, ownsRow_move (fun g hg hl => ⟨(h.own.own.lt g hg).1, K.block g hl ?_⟩) h.own.own⟩, h.kept.trans K, h.new, h.lt⟩
  have := h.new g hg
  omega
theorem TxS.app {w0 w wr w1 : World} {b : Nat} {l : List UInt8} {s s1 : Value} {pre more : List UInt8} (h : TxS w0 w b l s pre wr) (O : Ow w0 s1 (pre ++ more) w1) (K : Kp s wr s1 w1) : TxS w0 w b l s1 (pre ++ more) w1 := by
  have hlt := h.lt
  have hne : ∀ k, k < w.heap.size → s.ownBlock ≠ some k := fun k hk e => by
    have := h.new k e
    omega
  have hk := h.kept.size
  refine ⟨⟨O.below, h.rd.le, ?_, h.rd.len⟩, O, ⟨?_, ?_, ?_, Nat.le_trans hk K.size, fun k h1 h2 => (K.block k (by omega) (hne k h1)).trans (h.kept.block k h1 h2)⟩, fun g hg => ?_, h.lt⟩
  · obtain ⟨t, e, hr⟩ := h.rd.rd
    exact ⟨t, e, (K.block b (by omega) (hne b hlt)).trans hr⟩
  · exact (O.below.os.trans h.rd.below.os.symm).trans h.kept.os
  · exact (O.below.tape.trans h.rd.below.tape.symm).trans h.kept.tape
  · exact (O.below.output.trans h.rd.below.output.symm).trans h.kept.output
  · rcases K.own with e | ⟨g', e, hg'⟩
    · exact h.new g (e.symm.trans hg)
    · rw [e] at hg
      have := Option.some.inj hg
      omega

theorem ktextP_nil : ktextP [] = none := by unfold ktextP; rfl
theorem ktextP_zero_nil : ktextP [0] = none := by simp [ktextP]
theorem ktextP_shut (r : List UInt8) : ktextP (0 :: 1 :: r) = some ([], r) := by simp [ktextP]
theorem ktextP_stays (r : List UInt8) : ktextP (0 :: 255 :: r) = (ktextP r).map (fun p => (0 :: p.1, p.2)) := by simp [ktextP]
theorem ktextP_bad (d : UInt8) (r : List UInt8) (h1 : ¬ d = 1) (h2 : ¬ d = 255) : ktextP (0 :: d :: r) = none := by simp [ktextP, h1, h2]
theorem ktextP_more (c : UInt8) (r : List UInt8) (h : ¬ c = 0) : ktextP (c :: r) = (ktextP r).map (fun p => (c :: p.1, p.2)) := by rw [ktextP.eq_def]; simp only [if_neg h]
/-- what is read already stands ahead. -/
def ahead (pre : List UInt8) (o : Option (List UInt8 × List UInt8)) : Option (List UInt8 × List UInt8) := o.map (fun p => (pre ++ p.1, p.2))
theorem ahead_more (pre : List UInt8) (c : UInt8) (o : Option (List UInt8 × List UInt8)) : ahead pre (o.map (fun p => (c :: p.1, p.2))) = ahead (pre ++ [c]) o := by
  cases o <;> simp [ahead]

set_option maxRecDepth 100000 in
set_option maxHeartbeats 4000000 in
theorem text_any {w0 w : World} {b : Nat} {l : List UInt8} (R : RdK w0 b l w) :
    Calls Tryd.prog 38 #[.pointer (some ⟨b, 0, none⟩)] w (TxtA w0 b w (ktextP l)) := by
  obtain ⟨res, hres⟩ : ∃ r, ktextP l = r := ⟨_, rfl⟩
  rw [hres]
  have HR := (show Hid _ from And.intro R hres)
  clear R hres
  go_enter Tryd.func38, Tryd.ntmps38
  go_wp2_with fail
  go_loopg [4, 5, 6] (l.length + 1) (fun gg s4 _ _ wr => ∃ (l' pre : List UInt8), l'.length + 1 ≤ gg ∧ Aside (TxS w0 w b l' s4 pre wr ∧ ahead pre (ktextP l') = res ∧ pre.length + l'.length ≤ 1000000))
  case atStart =>
    obtain ⟨R, hres⟩ := HR.out
    refine ⟨l, [], by omega, ⟨R, Ow.nil R.below, KeptB.refl _ _, fun g hg => (by cases hg), R.lt⟩, ?_, by simpa using R.len⟩
    rw [hres]
    cases res <;> rfl
  case round =>
    obtain ⟨l', pre, hgg, A⟩ := hrel
    obtain ⟨T, hres, hlen⟩ := A.out
    rcases l' with _ | ⟨c, r⟩
    · have hn := next_nil T.rd
      clear T hres hlen HR
      go_wp2_with fail
      refine hn.mono ?_
      rintro e w1 ⟨rfl, rfl⟩
      clear hn
      go_wp2_with fail
      go_ret2
      obtain ⟨T, hres, hlen⟩ := A.out
      rw [ktextP_nil] at hres
      subst hres
      exact ⟨T.kept, rfl⟩
    · have hn := next_cons T.rd
      clear T hres hlen HR
      by_cases h0 : c = 0
      · subst h0
        go_wp2_with fail
        refine hn.mono ?_
        rintro e w1 ⟨rfl, K1, R1⟩
        have T1 := A.out.1.read K1 R1
        have H1 := (show Hid _ from T1)
        clear hn K1 R1 T1
        rcases r with _ | ⟨d, r⟩
        · have t1 := take_nil H1.out.rd 1
          have t2 := take_nil H1.out.rd 255
          go_wp2_with fail
          refine t1.mono ?_
          rintro e w2 ⟨rfl, rfl⟩
          clear t1
          go_wp2_with fail
          refine t2.mono ?_
          rintro e w3 ⟨rfl, rfl⟩
          clear t2
          go_wp2_with fail
          go_ret2
          obtain ⟨T, hres, hlen⟩ := A.out
          rw [ktextP_zero_nil] at hres
          subst hres
          exact ⟨H1.out.kept, rfl⟩
        · by_cases h1 : d = 1
          · subst h1
            have t1 := take_yes H1.out.rd 1 rfl
            go_wp2_with fail
            refine t1.mono ?_
            rintro e w2 ⟨rfl, K2, R2⟩
            have T2 := H1.out.read K2 R2
            have hs := own_string T2.own
            have H2 := (show Hid _ from T2)
            clear t1 K2 R2 T2
            go_wp2_with fail
            go_ret2
            obtain ⟨T, hres, hlen⟩ := A.out
            rw [ktextP_shut] at hres
            subst hres
            refine ⟨H2.out.kept, ?_, H2.out.rd⟩
            simp
          · have hd1 : ¬ (d.toNat : Int) = 1 := fun e => h1 (UInt8.toNat_inj.1 (show d.toNat = 1 by omega))
            have t1 := take_no H1.out.rd 1 hd1
            clear hd1
            go_wp2_with fail
            refine t1.mono ?_
            rintro e w2 ⟨rfl, rfl⟩
            clear t1
            by_cases h2 : d = 255
            · subst h2
              have t2 := take_yes H1.out.rd 255 rfl
              go_wp2_with fail
              refine t2.mono ?_
              rintro e w3 ⟨rfl, K3, R3⟩
              have T3 := H1.out.read K3 R3
              have H3 := (show Hid _ from T3)
              have HB : Hid (pre.length + 1 ≤ 1000000) := by have := A.out.2.2; simp only [List.length_cons] at this; show _ ≤ _; omega
              clear t2 K3 R3 T3
              go_wp2_with (first | (at_builtin; refine append_bytes rfl (.tmp 23) (.tmp 25) rfl H3.out.own [0] _ 1 rfl (by decide) rfl rfl rfl (by have := HB.out; omega) ?_; intro s1 u1 h1 k1; have H4 := (show Hid _ from H3.out.app h1 k1); clear h1 k1))
              go_roundg (r.length + 1)
              case measure => simp only [List.length_cons] at hgg; omega
              case rel =>
                obtain ⟨T, hres, hlen⟩ := A.out
                refine ⟨r, pre ++ [0], Nat.le_refl _, H4.out, ?_, ?_⟩
                · rw [ktextP_stays, ahead_more] at hres
                  exact hres
                · simp only [List.length_cons, List.length_append, List.length_nil] at hlen ⊢
                  omega
            · have hd2 : ¬ (d.toNat : Int) = 255 := fun e => h2 (UInt8.toNat_inj.1 (show d.toNat = 255 by omega))
              have t2 := take_no H1.out.rd 255 hd2
              clear hd2
              go_wp2_with fail
              refine t2.mono ?_
              rintro e w3 ⟨rfl, rfl⟩
              clear t2
              go_wp2_with fail
              go_ret2
              obtain ⟨T, hres, hlen⟩ := A.out
              rw [ktextP_bad d r h1 h2] at hres
              subst hres
              exact ⟨H1.out.kept, rfl⟩
      · have hne : ((c.toNat : Int) == 0) = false := by
          simp
          intro e
          exact h0 (UInt8.toNat_inj.1 (by simpa using e))
        have HB : Hid (pre.length + 1 ≤ 1000000) := by have := A.out.2.2; simp only [List.length_cons] at this; show _ ≤ _; omega
        have HC := (show Hid _ from h0)
        clear h0
        go_wp2_with fail
        refine hn.mono ?_
        rintro e w1 ⟨rfl, K1, R1⟩
        have T1 := A.out.1.read K1 R1
        have H1 := (show Hid _ from T1)
        clear hn K1 R1 T1
        go_wp2_with (first | (at_builtin; refine append_bytes rfl (.tmp 23) (.tmp 25) rfl H1.out.own [c] _ 1 rfl (by decide) rfl rfl rfl (by have := HB.out; omega) ?_; intro s1 u1 h1 k1; have H4 := (show Hid _ from H1.out.app h1 k1); clear h1 k1))
        go_roundg (r.length + 1)
        case measure => simp only [List.length_cons] at hgg; omega
        case rel =>
          obtain ⟨T, hres, hlen⟩ := A.out
          refine ⟨r, pre ++ [c], Nat.le_refl _, H4.out, ?_, ?_⟩
          · rw [ktextP_more c r HC.out, ahead_more] at hres
            exact hres
          · simp only [List.length_cons, List.length_append, List.length_nil] at hlen ⊢
            omega

/-- a row that is being read. -/
structure LsK (w0 w : World) (b n : Nat) (l : List UInt8) (s : Value) (es : List El) (wr : World) : Prop where
  rd : RdK w0 b l wr
  own : wr.ownsRow w.heap.size 28 5 s es.length (encEs es)
  rep : ∀ e ∈ es, Rep (fun c => w.heap.size ≤ c ∧ s.ownBlock ≠ some c) n wr e.v e.l e.f
  kept : KeptB b w wr
  lt : b < w.heap.size
theorem LsK.read {w0 w wr w1 : World} {b n : Nat} {l r : List UInt8} {s : Value} {es : List El} (h : LsK w0 w b n l s es wr) (K : KeptB b wr w1) (R : RdK w0 b r w1) : LsK w0 w b n r s es w1 := by
  have hlt := h.lt
  refine ⟨R, ownsRow_move (fun g hg hl => ⟨(h.own.lt g hg).1, K.block g hl ?_⟩) h.own, fun e he => (h.rep e he).move fun c hc hl => ⟨hc, K.block c hl (by have := hc.1; omega)⟩, h.kept.trans K, h.lt⟩
  have := (h.own.lt g hg).1
  omega
theorem append_val {ops : Array Oper} {rest : List Oper} {o : Oper} {a : Act} {Q : Exit → Act → World → Prop} (hgd : o.guard = none) (so xo : Operand)
    (ho : o.op = .call { callee := .builtin .append, args := #[so, xo], argTypes := #[25, 25] })
    {w0 w w1 : World} {b n : Nat} {l : List UInt8} {s : Value} {es : List El} (h : LsK w0 w b n l s es w1) (x : V) (al : Option Addr) (nl cl : Nat) (af : Option Addr) (nf cf : Nat) (hrep : Rep (fun c => w.heap.size ≤ c ∧ s.ownBlock ≠ some c) n w1 x (.slice al nl cl) (.slice af nf cf))
    (hs : a.eval so = s) (H : Nat) (hx : a.eval xo = .slice (some ⟨H, 0, none⟩) 1 1) (hH : w1.heap.size + 1 = H) (hlen : es.length + 1 ≤ 1000000) (O1 : Obj)
    (k : ∀ s' w3, LsK w0 w b n l s' (es ++ [⟨x, .slice al nl cl, .slice af nf cf⟩]) w3 → wpList Tryd.prog ops Q rest (a.put o.dst s') w3) :
    wpList Tryd.prog ops Q (o :: rest) a ((w1.alloc O1).alloc (.cells #[.int .i64 x.kind, .int .i64 x.num, .string x.text, .slice al nl cl, .slice af nf cf] 28)) := by
  obtain ⟨i0, hi, hz0, hz1, hz2⟩ := info_parts infoV
  obtain ⟨O2, hO2⟩ : ∃ O, O = Obj.cells #[.int .i64 x.kind, .int .i64 x.num, .string x.text, .slice al nl cl, .slice af nf cf] 28 := ⟨_, rfl⟩
  rw [← hO2]
  have hlt := h.lt
  have hks := h.kept.size
  have hA : Below w1.heap.size w1 ((w1.alloc O1).alloc O2) := ((Below.refl _ _).alloc (Nat.le_refl _) _).alloc (by simp) _
  have hnb : ∀ c, c < w.heap.size → some c ≠ s.ownBlock := fun c hc e => by
    have := (h.own.lt c e.symm).1
    omega
  have hown : ((w1.alloc O1).alloc O2).ownsRow w.heap.size 28 5 s es.length (encEs es) := ownsRow_move (fun g hg hl => ⟨(h.own.lt g hg).1, hA.block g hl⟩) h.own
  have hnews : ∀ j u, [Value.int .i64 x.kind, .int .i64 x.num, .string x.text, .slice al nl cl, .slice af nf cf][j]? = some u → ((w1.alloc O1).alloc O2).cell? ((⟨H, 0, none⟩ : Addr).add j) = some u := by
    have hh : ((w1.alloc O1).alloc O2).heap[H]? = some O2 := by rw [← hH]; exact heap_alloc2_new
    rw [hO2] at hh ⊢
    exact World.news_of_block hh
  have hone : ∀ v ∈ [Value.int .i64 x.kind, .int .i64 x.num, .string x.text, .slice al nl cl, .slice af nf cf], v.oneCell' = true := by
    intro v hv
    simp only [List.mem_cons, List.not_mem_nil, or_false] at hv
    rcases hv with rfl | rfl | rfl | rfl | rfl <;> rfl
  refine wpList_append_lies _ hgd so xo 25 ho w.heap.size 28 i0 _ 5 80 Tryd.underlying25 hi hz0 hz1 hz2 rfl (by decide) s es.length (encEs es) hs hown ⟨H, 0, none⟩ 1 1 [Value.int .i64 x.kind, .int .i64 x.num, .string x.text, .slice al nl cl, .slice af nf cf] hx rfl hnews hone (by omega) (by unfold maxLen; omega) (by omega) (by have := hA.size; omega) _ rfl ?_
  intro g cap w3 hown3 hgrow3 hlie hlt3
  have hbl : ∀ c, c < w1.heap.size → some c ≠ s.ownBlock → w3.heap[c]? = w1.heap[c]? := fun c hc hne => (hgrow3.block c (Nat.lt_of_lt_of_le hc hA.size) hne).trans (hA.block c hc)
  have hm : ∀ c, (w.heap.size ≤ c ∧ s.ownBlock ≠ some c) → c < w1.heap.size → (w.heap.size ≤ c ∧ (Value.slice (some ⟨g, 0, none⟩) (es.length + 1) cap).ownBlock ≠ some c) ∧ w3.heap[c]? = w1.heap[c]? := by
    intro c h1 h2
    refine ⟨⟨h1.1, ?_⟩, hbl c h2 (fun e => h1.2 e.symm)⟩
    rcases hlie with e | e
    · intro e2
      exact h1.2 (e.trans e2)
    · intro e2
      have e3 : g = c := Option.some.inj e2
      have := hA.size
      omega
  have hB3 : Below w0.heap.size w0 w3 := by
    have h1 := h.rd.below
    have h2 := h1.trans (hA.mono h1.size)
    refine h2.grown hgrow3 h2.size (fun k e => ?_)
    have := (h.own.lt k e).1
    have := h.rd.le
    omega
  refine k _ w3 ⟨⟨hB3, h.rd.le, ?_, h.rd.len⟩, ?_, ?_, ⟨hgrow3.os.trans (hA.os.trans h.kept.os), hgrow3.tape.trans (hA.tape.trans h.kept.tape), hgrow3.output.trans (hA.output.trans h.kept.output), Nat.le_trans hks (Nat.le_trans hA.size hgrow3.size), fun c hc hcb => ?_⟩, h.lt⟩
  · obtain ⟨t, e, hr⟩ := h.rd.rd
    exact ⟨t, e, (hbl b (by omega) (hnb b hlt)).trans hr⟩
  · rw [encEs_append, List.length_append]; exact hown3
  · intro e he
    rcases List.mem_append.1 he with he | he
    · exact (h.rep e he).move hm
    · rw [List.mem_singleton.1 he]; exact hrep.move hm
  · rw [hbl c (by omega) (hnb c hc)]
    exact h.kept.block c hc hcb

/-- a row that is being read. -/
structure FsK (w0 w : World) (b n : Nat) (l : List UInt8) (s : Value) (es : List Fl) (wr : World) : Prop where
  rd : RdK w0 b l wr
  own : wr.ownsRow w.heap.size 50 6 s es.length (encFs es)
  rep : ∀ e ∈ es, Rep (fun c => w.heap.size ≤ c ∧ s.ownBlock ≠ some c) n wr e.v e.l e.f
  kept : KeptB b w wr
  lt : b < w.heap.size
theorem FsK.read {w0 w wr w1 : World} {b n : Nat} {l r : List UInt8} {s : Value} {es : List Fl} (h : FsK w0 w b n l s es wr) (K : KeptB b wr w1) (R : RdK w0 b r w1) : FsK w0 w b n r s es w1 := by
  have hlt := h.lt
  refine ⟨R, ownsRow_move (fun g hg hl => ⟨(h.own.lt g hg).1, K.block g hl ?_⟩) h.own, fun e he => (h.rep e he).move fun c hc hl => ⟨hc, K.block c hl (by have := hc.1; omega)⟩, h.kept.trans K, h.lt⟩
  have := (h.own.lt g hg).1
  omega
theorem append_fld {ops : Array Oper} {rest : List Oper} {o : Oper} {a : Act} {Q : Exit → Act → World → Prop} (hgd : o.guard = none) (so xo : Operand)
    (ho : o.op = .call { callee := .builtin .append, args := #[so, xo], argTypes := #[26, 26] })
    {w0 w w1 : World} {b n : Nat} {l : List UInt8} {s : Value} {es : List Fl} (h : FsK w0 w b n l s es w1) (nm : ByteArray) (x : V) (al : Option Addr) (nl cl : Nat) (af : Option Addr) (nf cf : Nat) (hrep : Rep (fun c => w.heap.size ≤ c ∧ s.ownBlock ≠ some c) n w1 x (.slice al nl cl) (.slice af nf cf))
    (hs : a.eval so = s) (H : Nat) (hx : a.eval xo = .slice (some ⟨H, 0, none⟩) 1 1) (hH : w1.heap.size + 1 = H) (hlen : es.length + 1 ≤ 1000000) (O1 : Obj)
    (k : ∀ s' w3, FsK w0 w b n l s' (es ++ [⟨nm, x, .slice al nl cl, .slice af nf cf⟩]) w3 → wpList Tryd.prog ops Q rest (a.put o.dst s') w3) :
    wpList Tryd.prog ops Q (o :: rest) a ((w1.alloc O1).alloc (.cells #[.string nm, .int .i64 x.kind, .int .i64 x.num, .string x.text, .slice al nl cl, .slice af nf cf] 50)) := by
  obtain ⟨i0, hi, hz0, hz1, hz2⟩ := info_parts infoF
  obtain ⟨O2, hO2⟩ : ∃ O, O = Obj.cells #[.string nm, .int .i64 x.kind, .int .i64 x.num, .string x.text, .slice al nl cl, .slice af nf cf] 50 := ⟨_, rfl⟩
  rw [← hO2]
  have hlt := h.lt
  have hks := h.kept.size
  have hA : Below w1.heap.size w1 ((w1.alloc O1).alloc O2) := ((Below.refl _ _).alloc (Nat.le_refl _) _).alloc (by simp) _
  have hnb : ∀ c, c < w.heap.size → some c ≠ s.ownBlock := fun c hc e => by
    have := (h.own.lt c e.symm).1
    omega
  have hown : ((w1.alloc O1).alloc O2).ownsRow w.heap.size 50 6 s es.length (encFs es) := ownsRow_move (fun g hg hl => ⟨(h.own.lt g hg).1, hA.block g hl⟩) h.own
  have hnews : ∀ j u, [Value.string nm, .int .i64 x.kind, .int .i64 x.num, .string x.text, .slice al nl cl, .slice af nf cf][j]? = some u → ((w1.alloc O1).alloc O2).cell? ((⟨H, 0, none⟩ : Addr).add j) = some u := by
    have hh : ((w1.alloc O1).alloc O2).heap[H]? = some O2 := by rw [← hH]; exact heap_alloc2_new
    rw [hO2] at hh ⊢
    exact World.news_of_block hh
  have hone : ∀ v ∈ [Value.string nm, .int .i64 x.kind, .int .i64 x.num, .string x.text, .slice al nl cl, .slice af nf cf], v.oneCell' = true := by
    intro v hv
    simp only [List.mem_cons, List.not_mem_nil, or_false] at hv
    rcases hv with rfl | rfl | rfl | rfl | rfl | rfl <;> rfl
  refine wpList_append_lies _ hgd so xo 26 ho w.heap.size 50 i0 _ 6 96 Tryd.underlying26 hi hz0 hz1 hz2 rfl (by decide) s es.length (encFs es) hs hown ⟨H, 0, none⟩ 1 1 [Value.string nm, .int .i64 x.kind, .int .i64 x.num, .string x.text, .slice al nl cl, .slice af nf cf] hx rfl hnews hone (by omega) (by unfold maxLen; omega) (by omega) (by have := hA.size; omega) _ rfl ?_
  intro g cap w3 hown3 hgrow3 hlie hlt3
  have hbl : ∀ c, c < w1.heap.size → some c ≠ s.ownBlock → w3.heap[c]? = w1.heap[c]? := fun c hc hne => (hgrow3.block c (Nat.lt_of_lt_of_le hc hA.size) hne).trans (hA.block c hc)
  have hm : ∀ c, (w.heap.size ≤ c ∧ s.ownBlock ≠ some c) → c < w1.heap.size → (w.heap.size ≤ c ∧ (Value.slice (some ⟨g, 0, none⟩) (es.length + 1) cap).ownBlock ≠ some c) ∧ w3.heap[c]? = w1.heap[c]? := by
    intro c h1 h2
    refine ⟨⟨h1.1, ?_⟩, hbl c h2 (fun e => h1.2 e.symm)⟩
    rcases hlie with e | e
    · intro e2
      exact h1.2 (e.trans e2)
    · intro e2
      have e3 : g = c := Option.some.inj e2
      have := hA.size
      omega
  have hB3 : Below w0.heap.size w0 w3 := by
    have h1 := h.rd.below
    have h2 := h1.trans (hA.mono h1.size)
    refine h2.grown hgrow3 h2.size (fun k e => ?_)
    have := (h.own.lt k e).1
    have := h.rd.le
    omega
  refine k _ w3 ⟨⟨hB3, h.rd.le, ?_, h.rd.len⟩, ?_, ?_, ⟨hgrow3.os.trans (hA.os.trans h.kept.os), hgrow3.tape.trans (hA.tape.trans h.kept.tape), hgrow3.output.trans (hA.output.trans h.kept.output), Nat.le_trans hks (Nat.le_trans hA.size hgrow3.size), fun c hc hcb => ?_⟩, h.lt⟩
  · obtain ⟨t, e, hr⟩ := h.rd.rd
    exact ⟨t, e, (hbl b (by omega) (hnb b hlt)).trans hr⟩
  · rw [encFs_append, List.length_append]; exact hown3
  · intro e he
    rcases List.mem_append.1 he with he | he
    · exact (h.rep e he).move hm
    · rw [List.mem_singleton.1 he]; exact hrep.move hm
  · rw [hbl c (by omega) (hnb c hc)]
    exact h.kept.block c hc hcb

/-- things one behind the other, up to a byte 0. -/
def rowK {α : Type} (f : List UInt8 → Option (α × List UInt8)) : Nat → List UInt8 → Option (List α × List UInt8)
  | 0, _ => none
  | m + 1, l => if l.head? = some 0 then some ([], l.tail) else
    match f l with
    | none => none
    | some p => (rowK f m p.2).map (fun q => (p.1 :: q.1, q.2))
def fieldK (f : List UInt8 → Option (V × List UInt8)) (l : List UInt8) : Option ((ByteArray × V) × List UInt8) :=
  if l.head? = some 1 then
    match ktextP l.tail with
    | none => none
    | some p => (f p.2).map (fun q => ((⟨p.1.toArray⟩, q.1), q.2))
  else none
/-- a value, by what its first byte tells. -/
def kindK (f : List UInt8 → Option (V × List UInt8)) (k : Int) (r : List UInt8) : Option (V × List UInt8) :=
  if k = 1 then (if r.length < 1 then none else some (⟨1, wrap64 (numL (r.take 1) : Int), ⟨#[]⟩, [], []⟩, r.drop 1))
  else if k = 2 then (if r.length < 8 then none else some (⟨2, tw (wrap64 (numL (r.take 8) : Int)), ⟨#[]⟩, [], []⟩, r.drop 8))
  else if k = 3 then (ktextP r).map (fun p => (⟨3, 0, ⟨p.1.toArray⟩, [], []⟩, p.2))
  else if k = 4 then (rowK f (r.length + 1) r).map (fun p => (⟨4, 0, ⟨#[]⟩, p.1, []⟩, p.2))
  else if k = 5 then (rowK (fieldK f) (r.length + 1) r).map (fun p => (⟨5, 0, ⟨#[]⟩, [], p.1⟩, p.2))
  else some (⟨k, 0, ⟨#[]⟩, [], []⟩, r)
def valueK : Nat → List UInt8 → Option (V × List UInt8)
  | 0, _ => none
  | _ + 1, [] => none
  | n + 1, c :: r => kindK (valueK n) ((c.toNat : Int) - 1) r

/-- what is read is shorter. -/
def Less {α : Type} (f : List UInt8 → Option (α × List UInt8)) : Prop := ∀ l p, f l = some p → p.2.length < l.length
theorem text_less : ∀ (m : Nat) (l : List UInt8), l.length ≤ m → ∀ p, ktextP l = some p → p.2.length < l.length
  | _, [], _, p, h => by rw [ktextP_nil] at h; cases h
  | 0, _ :: _, hm, _, _ => by simp at hm
  | m + 1, c :: r, hm, p, h => by
    simp only [List.length_cons] at hm ⊢
    by_cases h0 : c = 0
    · subst h0
      rcases r with _ | ⟨d, r⟩
      · rw [ktextP_zero_nil] at h; cases h
      · simp only [List.length_cons] at hm ⊢
        by_cases h1 : d = 1
        · subst h1
          rw [ktextP_shut] at h
          cases h
          simp
          omega
        · by_cases h2 : d = 255
          · subst h2
            rw [ktextP_stays] at h
            obtain ⟨q, hq, rfl⟩ := Option.map_eq_some_iff.1 h
            have := text_less m r (by omega) q hq
            simp only
            omega
          · rw [ktextP_bad d r h1 h2] at h; cases h
    · rw [ktextP_more c r h0] at h
      obtain ⟨q, hq, rfl⟩ := Option.map_eq_some_iff.1 h
      have := text_less m r (by omega) q hq
      simp only
      omega
theorem rowK_less {α : Type} {f : List UInt8 → Option (α × List UInt8)} (hf : Less f) : ∀ (m : Nat) (l : List UInt8) (p : List α × List UInt8), rowK f m l = some p → p.2.length < l.length
  | 0, _, _, h => by simp [rowK] at h
  | m + 1, l, p, h => by
    unfold rowK at h
    split at h
    · rename_i h0
      cases h
      cases l with
      | nil => simp at h0
      | cons c r => simp
    · split at h
      · cases h
      · rename_i q hq
        obtain ⟨q', hq', rfl⟩ := Option.map_eq_some_iff.1 h
        have h1 := hf l q hq
        have h2 := rowK_less hf m q.2 q' hq'
        simp only
        omega
theorem fieldK_less {f : List UInt8 → Option (V × List UInt8)} (hf : Less f) : Less (fieldK f) := by
  intro l p h
  unfold fieldK at h
  split at h
  · rename_i h0
    split at h
    · cases h
    · rename_i q hq
      obtain ⟨q', hq', rfl⟩ := Option.map_eq_some_iff.1 h
      have h1 := text_less _ _ (Nat.le_refl _) q hq
      have h2 := hf _ q' hq'
      rw [List.length_tail] at h1
      simp only
      omega
  · cases h
theorem valueK_less : ∀ n, Less (valueK n)
  | 0 => fun l p h => by simp [valueK] at h
  | n + 1 => by
    intro l p h
    cases l with
    | nil => simp [valueK] at h
    | cons c r =>
      have ih := valueK_less n
      simp only [valueK, kindK] at h
      rw [List.length_cons]
      split at h
      · split at h
        · cases h
        · cases h; simp; omega
      · split at h
        · split at h
          · cases h
          · cases h; simp; omega
        · split at h
          · obtain ⟨q, hq, rfl⟩ := Option.map_eq_some_iff.1 h
            have := text_less _ _ (Nat.le_refl _) q hq
            simp only; omega
          · split at h
            · obtain ⟨q, hq, rfl⟩ := Option.map_eq_some_iff.1 h
              have := rowK_less ih _ _ q hq
              simp only; omega
            · split at h
              · obtain ⟨q, hq, rfl⟩ := Option.map_eq_some_iff.1 h
                have := rowK_less (fieldK_less ih) _ _ q hq
                simp only; omega
              · cases h; simp

/-- what value answers. -/
def ValA (w0 : World) (b : Nat) (w : World) (n : Nat) (res : Option (V × List UInt8)) (e : Ending) (w' : World) : Prop :=
  KeptB b w w' ∧ match res with
  | none => ∃ k m t, e = .returned (.tuple #[.agg #[.int .i64 k, .int .i64 m, .string t, .slice none 0 0, .slice none 0 0], .bool false])
  | some p => ∃ l f, e = .returned (.tuple #[.agg #[.int .i64 p.1.kind, .int .i64 p.1.num, .string p.1.text, l, f], .bool true]) ∧ Rep (fun c => w.heap.size ≤ c) n w' p.1 l f ∧ RdK w0 b p.2 w'
/-- what field answers. -/
def FldA (w0 : World) (b : Nat) (w : World) (n : Nat) (res : Option ((ByteArray × V) × List UInt8)) (e : Ending) (w' : World) : Prop :=
  KeptB b w w' ∧ match res with
  | none => ∃ s k m t, e = .returned (.tuple #[.agg #[.string s, .int .i64 k, .int .i64 m, .string t, .slice none 0 0, .slice none 0 0], .bool false])
  | some p => ∃ l f, e = .returned (.tuple #[.agg #[.string p.1.1, .int .i64 p.1.2.kind, .int .i64 p.1.2.num, .string p.1.2.text, l, f], .bool true]) ∧ Rep (fun c => w.heap.size ≤ c) n w' p.1.2 l f ∧ RdK w0 b p.2 w'
def aheadR {α : Type} (pre : List α) (o : Option (List α × List UInt8)) : Option (List α × List UInt8) := o.map (fun p => (pre ++ p.1, p.2))
theorem aheadR_more {α : Type} (pre : List α) (x : α) (o : Option (List α × List UInt8)) : aheadR pre (o.map (fun q => (x :: q.1, q.2))) = aheadR (pre ++ [x]) o := by
  cases o <;> simp [aheadR]
theorem take_not {w0 w : World} {b : Nat} {l : List UInt8} (R : RdK w0 b l w) (h : ¬ l.head? = some 0) :
    Calls Tryd.prog 48 #[.pointer (some ⟨b, 0, none⟩), .int .u8 0] w fun e w' => e = .returned (.bool false) ∧ w' = w := by
  cases l with
  | nil => exact take_nil R 0
  | cons c r =>
    refine take_no R 0 fun e => h ?_
    have : c = 0 := UInt8.toNat_inj.1 (show c.toNat = 0 by omega)
    simp [this]

/-- what list answers. -/
def LsA (w0 : World) (b : Nat) (w : World) (n : Nat) (res : Option (List V × List UInt8)) (e : Ending) (w' : World) : Prop :=
  KeptB b w w' ∧ match res with
  | none => e = .returned (.tuple #[.slice none 0 0, .bool false])
  | some p => ∃ (s : Value) (es : List El), e = .returned (.tuple #[s, .bool true]) ∧ es.map El.v = p.1 ∧ RowAt (fun c => w.heap.size ≤ c) w' 28 5 s es.length (encEs es) ∧ (∀ e ∈ es, Rep (fun c => w.heap.size ≤ c) n w' e.v e.l e.f) ∧ RdK w0 b p.2 w'

set_option maxRecDepth 100000 in
set_option maxHeartbeats 8000000 in
theorem list_any (n : Nat) (D : Int) (ih : ∀ (w0 : World) (b : Nat) (l : List UInt8) (w : World), RdK w0 b l w → Calls Tryd.prog 24 #[.pointer (some ⟨b, 0, none⟩), .int .i64 D] w (ValA w0 b w n (valueK n l))) {w0 w : World} {b : Nat} {l : List UInt8} (R : RdK w0 b l w) :
    Calls Tryd.prog 39 #[.pointer (some ⟨b, 0, none⟩), .int .i64 D] w (LsA w0 b w n (rowK (valueK n) (l.length + 1) l)) := by
  obtain ⟨res, hres⟩ : ∃ r, rowK (valueK n) (l.length + 1) l = r := ⟨_, rfl⟩
  rw [hres]
  have HR := (show Hid _ from And.intro R hres)
  have hI := (show Hid _ from And.intro ih ih)
  clear R hres ih
  go_enter Tryd.func39, Tryd.ntmps39
  go_wp2_with fail
  go_loopg [6, 7, 8] (l.length + 1) (fun gg s6 _ _ wr => ∃ (l' : List UInt8) (es : List El) (m : Nat), l'.length + 1 ≤ gg ∧ l'.length < m ∧ Aside (LsK w0 w b n l' s6 es wr ∧ aheadR (es.map El.v) (rowK (valueK n) m l') = res ∧ es.length + l'.length ≤ 1000000))
  case atStart =>
    obtain ⟨R, hres⟩ := HR.out
    refine ⟨l, [], l.length + 1, by omega, by omega, ⟨R, World.ownsRow_nil _ _ _ _, fun e he => (by cases he), KeptB.refl _ _, R.lt⟩, ?_, by simpa using R.len⟩
    rw [hres]
    cases res <;> rfl
  case round =>
    obtain ⟨l', es, m, hgg, hm, A⟩ := hrel
    obtain ⟨m, rfl⟩ : ∃ m', m = m' + 1 := ⟨m - 1, by omega⟩
    clear HR
    by_cases h0 : l'.head? = some 0
    · obtain ⟨r, rfl⟩ : ∃ r, l' = 0 :: r := by
        cases l' with
        | nil => simp at h0
        | cons c r => simp at h0; exact ⟨r, by rw [h0]⟩
      have ht := take_yes A.out.1.rd 0 rfl
      go_wp2_with fail
      refine ht.mono ?_
      rintro e w1 ⟨rfl, K1, R1⟩
      have H1 := (show Hid _ from A.out.1.read K1 R1)
      clear ht K1 R1
      go_wp2_with fail
      go_ret2
      obtain ⟨T, hres, hlen⟩ := A.out
      have hk := H1.out.kept
      refine ⟨hk, ?_⟩
      rw [rowK, if_pos h0] at hres
      subst hres
      have hl := H1.out
      simp only [List.length_cons] at hlen
      exact ⟨_, es, rfl, by simp, ⟨ownsRow_move (fun c _ _ => ⟨Nat.zero_le _, rfl⟩) hl.own, by omega, fun c hc => (hl.own.lt c hc).1⟩, fun e he => (hl.rep e he).move fun c hc _ => ⟨hc.1, rfl⟩, hl.rd⟩
    · have ht := take_not A.out.1.rd h0
      have HN := (show Hid _ from h0)
      clear h0
      go_wp2_with fail
      refine ht.mono ?_
      rintro e w1 ⟨rfl, rfl⟩
      have hv := hI.out.1 w0 b l' w1 A.out.1.rd
      obtain ⟨rv, hrv⟩ : ∃ r, valueK n l' = r := ⟨_, rfl⟩
      rw [hrv] at hv
      have HV := (show Hid _ from hrv)
      clear ht hrv
      go_wp2_with fail
      refine hv.mono ?_
      rintro e w2 ⟨K2, h2⟩
      clear hv
      cases rv with
      | none =>
        obtain ⟨kk, mm, tt, rfl⟩ := h2
        have H2 := (show Hid _ from K2)
        clear K2
        go_wp2_with fail
        go_ret2
        obtain ⟨T, hres, hlen⟩ := A.out
        refine ⟨(T.kept.trans H2.out).trans (KeptB.of_below ((Below.refl _ _).alloc (Nat.le_refl _) _)), ?_⟩
        rw [rowK, if_neg HN.out, HV.out] at hres
        subst hres
        rfl
      | some rv =>
        obtain ⟨x, rest⟩ := rv
        obtain ⟨xl, xf, rfl, hrx, R2⟩ := h2
        simp only at hrx R2 ⊢
        obtain ⟨bl, dl, bf, df, rfl, rfl⟩ := hrx.slices
        have hL2 := A.out.1.read K2 R2
        have hrx' : Rep (fun c => w.heap.size ≤ c ∧ u6.ownBlock ≠ some c) n w2 x (.slice bl x.list.length dl) (.slice bf x.fields.length df) := hrx.move fun c hc _ => ⟨⟨by have := A.out.1.kept.size; omega, fun e => by have := (A.out.1.own.lt c e).2; omega⟩, rfl⟩
        have hsh := valueK_less n l' _ HV.out
        simp only at hsh
        have H2 := (show Hid _ from And.intro hL2 (And.intro hrx' hsh))
        have HB : Hid (es.length + 1 ≤ 1000000) := by have := A.out.2.2; show _ ≤ _; omega
        clear K2 R2 hrx hL2 hrx' hsh
        go_wp2_with (first | (at_builtin; refine append_val rfl (.tmp 20) (.tmp 22) rfl H2.out.1 x _ _ _ _ _ _ H2.out.2.1 rfl _ rfl (by simp) HB.out _ ?_; intro s1 u1 h1; have H4 := (show Hid _ from h1); clear h1))
        go_roundg (rest.length + 1)
        case measure => have := H2.out.2.2; omega
        case rel =>
          obtain ⟨T, hres, hlen⟩ := A.out
          have hsh := H2.out.2.2
          refine ⟨rest, es ++ [⟨x, .slice bl x.list.length dl, .slice bf x.fields.length df⟩], m, Nat.le_refl _, by omega, H4.out, ?_, ?_⟩
          · rw [rowK, if_neg HN.out, HV.out] at hres
            have hres2 : aheadR (es.map El.v) ((rowK (valueK n) m rest).map (fun q => (x :: q.1, q.2))) = res := hres
            rw [← hres2, aheadR_more, List.map_append]
            rfl
          · rw [List.length_append, List.length_singleton]
            omega

/-- what fields answers. -/
def FsA (w0 : World) (b : Nat) (w : World) (n : Nat) (res : Option (List (ByteArray × V) × List UInt8)) (e : Ending) (w' : World) : Prop :=
  KeptB b w w' ∧ match res with
  | none => e = .returned (.tuple #[.slice none 0 0, .bool false])
  | some p => ∃ (s : Value) (es : List Fl), e = .returned (.tuple #[s, .bool true]) ∧ es.map Fl.pair = p.1 ∧ RowAt (fun c => w.heap.size ≤ c) w' 50 6 s es.length (encFs es) ∧ (∀ e ∈ es, Rep (fun c => w.heap.size ≤ c) n w' e.v e.l e.f) ∧ RdK w0 b p.2 w'

set_option maxRecDepth 100000 in
set_option maxHeartbeats 8000000 in
theorem fields_any (n : Nat) (D : Int) (ih : ∀ (w0 : World) (b : Nat) (l : List UInt8) (w : World), RdK w0 b l w → Calls Tryd.prog 49 #[.pointer (some ⟨b, 0, none⟩), .int .i64 D] w (FldA w0 b w n (fieldK (valueK n) l))) {w0 w : World} {b : Nat} {l : List UInt8} (R : RdK w0 b l w) :
    Calls Tryd.prog 40 #[.pointer (some ⟨b, 0, none⟩), .int .i64 D] w (FsA w0 b w n (rowK (fieldK (valueK n)) (l.length + 1) l)) := by
  obtain ⟨res, hres⟩ : ∃ r, rowK (fieldK (valueK n)) (l.length + 1) l = r := ⟨_, rfl⟩
  rw [hres]
  have HR := (show Hid _ from And.intro R hres)
  have hI := (show Hid _ from And.intro ih ih)
  clear R hres ih
  go_enter Tryd.func40, Tryd.ntmps40
  go_wp2_with fail
  go_loopg [6, 7, 8] (l.length + 1) (fun gg s6 _ _ wr => ∃ (l' : List UInt8) (es : List Fl) (m : Nat), l'.length + 1 ≤ gg ∧ l'.length < m ∧ Aside (FsK w0 w b n l' s6 es wr ∧ aheadR (es.map Fl.pair) (rowK (fieldK (valueK n)) m l') = res ∧ es.length + l'.length ≤ 1000000))
  case atStart =>
    obtain ⟨R, hres⟩ := HR.out
    refine ⟨l, [], l.length + 1, by omega, by omega, ⟨R, World.ownsRow_nil _ _ _ _, fun e he => (by cases he), KeptB.refl _ _, R.lt⟩, ?_, by simpa using R.len⟩
    rw [hres]
    cases res <;> rfl
  case round =>
    obtain ⟨l', es, m, hgg, hm, A⟩ := hrel
    obtain ⟨m, rfl⟩ : ∃ m', m = m' + 1 := ⟨m - 1, by omega⟩
    clear HR
    by_cases h0 : l'.head? = some 0
    · obtain ⟨r, rfl⟩ : ∃ r, l' = 0 :: r := by
        cases l' with
        | nil => simp at h0
        | cons c r => simp at h0; exact ⟨r, by rw [h0]⟩
      have ht := take_yes A.out.1.rd 0 rfl
      go_wp2_with fail
      refine ht.mono ?_
      rintro e w1 ⟨rfl, K1, R1⟩
      have H1 := (show Hid _ from A.out.1.read K1 R1)
      clear ht K1 R1
      go_wp2_with fail
      go_ret2
      obtain ⟨T, hres, hlen⟩ := A.out
      have hk := H1.out.kept
      refine ⟨hk, ?_⟩
      rw [rowK, if_pos h0] at hres
      subst hres
      have hl := H1.out
      simp only [List.length_cons] at hlen
      exact ⟨_, es, rfl, by simp, ⟨ownsRow_move (fun c _ _ => ⟨Nat.zero_le _, rfl⟩) hl.own, by omega, fun c hc => (hl.own.lt c hc).1⟩, fun e he => (hl.rep e he).move fun c hc _ => ⟨hc.1, rfl⟩, hl.rd⟩
    · have ht := take_not A.out.1.rd h0
      have HN := (show Hid _ from h0)
      clear h0
      go_wp2_with fail
      refine ht.mono ?_
      rintro e w1 ⟨rfl, rfl⟩
      have hv := hI.out.1 w0 b l' w1 A.out.1.rd
      obtain ⟨rv, hrv⟩ : ∃ r, fieldK (valueK n) l' = r := ⟨_, rfl⟩
      rw [hrv] at hv
      have HV := (show Hid _ from hrv)
      clear ht hrv
      go_wp2_with fail
      refine hv.mono ?_
      rintro e w2 ⟨K2, h2⟩
      clear hv
      cases rv with
      | none =>
        obtain ⟨nm, kk, mm, tt, rfl⟩ := h2
        have H2 := (show Hid _ from K2)
        clear K2
        go_wp2_with fail
        go_ret2
        obtain ⟨T, hres, hlen⟩ := A.out
        refine ⟨(T.kept.trans H2.out).trans (KeptB.of_below ((Below.refl _ _).alloc (Nat.le_refl _) _)), ?_⟩
        rw [rowK, if_neg HN.out, HV.out] at hres
        subst hres
        rfl
      | some rv =>
        obtain ⟨⟨nm, x⟩, rest⟩ := rv
        obtain ⟨xl, xf, rfl, hrx, R2⟩ := h2
        simp only at hrx R2 ⊢
        obtain ⟨bl, dl, bf, df, rfl, rfl⟩ := hrx.slices
        have hL2 := A.out.1.read K2 R2
        have hrx' : Rep (fun c => w.heap.size ≤ c ∧ u6.ownBlock ≠ some c) n w2 x (.slice bl x.list.length dl) (.slice bf x.fields.length df) := hrx.move fun c hc _ => ⟨⟨by have := A.out.1.kept.size; omega, fun e => by have := (A.out.1.own.lt c e).2; omega⟩, rfl⟩
        have hsh := fieldK_less (valueK_less n) l' _ HV.out
        simp only at hsh
        have H2 := (show Hid _ from And.intro hL2 (And.intro hrx' hsh))
        have HB : Hid (es.length + 1 ≤ 1000000) := by have := A.out.2.2; show _ ≤ _; omega
        clear K2 R2 hrx hL2 hrx' hsh
        go_wp2_with (first | (at_builtin; refine append_fld rfl (.tmp 20) (.tmp 22) rfl H2.out.1 nm x _ _ _ _ _ _ H2.out.2.1 rfl _ rfl (by simp) HB.out _ ?_; intro s1 u1 h1; have H4 := (show Hid _ from h1); clear h1))
        go_roundg (rest.length + 1)
        case measure => have := H2.out.2.2; omega
        case rel =>
          obtain ⟨T, hres, hlen⟩ := A.out
          have hsh := H2.out.2.2
          refine ⟨rest, es ++ [⟨nm, x, .slice bl x.list.length dl, .slice bf x.fields.length df⟩], m, Nat.le_refl _, by omega, H4.out, ?_, ?_⟩
          · rw [rowK, if_neg HN.out, HV.out] at hres
            have hres2 : aheadR (es.map Fl.pair) ((rowK (fieldK (valueK n)) m rest).map (fun q => ((nm, x) :: q.1, q.2))) = res := hres
            rw [← hres2, aheadR_more, List.map_append]
            rfl
          · rw [List.length_append, List.length_singleton]
            omega

theorem KeptB.setc {b c o : Nat} {v : Value} {w w1 : World} (h : KeptB b w w1) (hc : w.heap.size ≤ c) : KeptB b w (w1.setCell ⟨c, o, none⟩ v) :=
  ⟨h.os, h.tape, h.output, by simpa [World.setCell] using h.size, fun k hk hb => (Below.heap_setCell _ _ _ _ (by simp; omega)).trans (h.block k hk hb)⟩
theorem RdK.setc {w0 w1 : World} {b c o : Nat} {l : List UInt8} {v : Value} (h : RdK w0 b l w1) (hc : c ≠ b) (h0 : w0.heap.size ≤ c) : RdK w0 b l (w1.setCell ⟨c, o, none⟩ v) := by
  refine ⟨h.below.trans ((KeptB.set (b := c) w1).below h0 h.below.size), h.le, ?_, h.len⟩
  obtain ⟨s, e, hr⟩ := h.rd
  exact ⟨s, e, (Below.heap_setCell _ _ _ _ (by simp; omega)).trans hr⟩
theorem Rep.setc {ok : Nat → Prop} {n : Nat} {w1 : World} {x : V} {l f : Value} (h : Rep ok n w1 x l f) {c o : Nat} {v : Value} (hc : ¬ ok c) : Rep ok n (w1.setCell ⟨c, o, none⟩ v) x l f :=
  h.move fun k hk _ => ⟨hk, Below.heap_setCell _ _ _ _ (fun e => hc (by have e' : k = c := e; rw [← e']; exact hk))⟩
theorem KeptB.al {b : Nat} {w w1 : World} {o : Obj} (h : KeptB b w w1) : KeptB b w (w1.alloc o) := h.trans (KeptB.of_below ((Below.refl _ _).alloc (Nat.le_refl _) _))
theorem RdK.al {w0 w1 : World} {b : Nat} {l : List UInt8} {o : Obj} (h : RdK w0 b l w1) : RdK w0 b l (w1.alloc o) := h.same ((Below.refl _ _).alloc (Nat.le_refl _) _)
theorem Rep.al {ok : Nat → Prop} {n : Nat} {w1 : World} {x : V} {l f : Value} {o : Obj} (h : Rep ok n w1 x l f) : Rep ok n (w1.alloc o) x l f := h.below ((Below.refl _ _).alloc (Nat.le_refl _) _)
theorem KeptB.mem {b : Nat} {w w' : World} (h : KeptB b w w') {c : Nat} {o : Obj} (hc : w.heap[c]? = some o) (hb : c ≠ b) : w'.heap[c]? = some o := (h.block c (lt_of_heap hc) hb).trans hc
theorem take_not1 {w0 w : World} {b : Nat} {l : List UInt8} (R : RdK w0 b l w) (h : ¬ l.head? = some 1) :
    Calls Tryd.prog 48 #[.pointer (some ⟨b, 0, none⟩), .int .u8 1] w fun e w' => e = .returned (.bool false) ∧ w' = w := by
  cases l with
  | nil => exact take_nil R 1
  | cons c r =>
    refine take_no R 1 fun e => h ?_
    have : c = 1 := UInt8.toNat_inj.1 (show c.toNat = 1 by omega)
    simp [this]

/-- where a field that is being read stands. -/
structure FdK (w0 w : World) (b : Nat) (r : List UInt8) (w1 : World) : Prop where
  rd : RdK w0 b r w1
  kept : KeptB b w w1
  lt : b < w.heap.size
  row : w1.heap[w.heap.size]? = some (.cells #[.string ⟨#[]⟩, .int .i64 0, .int .i64 0, .string ⟨#[]⟩, .slice none 0 0, .slice none 0 0] 50 (0, 0))
theorem FdK.more {w0 w w1 w2 : World} {b : Nat} {r r2 : List UInt8} (h : FdK w0 w b r w1) (K : KeptB b w1 w2) (R : RdK w0 b r2 w2) : FdK w0 w b r2 w2 := by
  have h1 := h.lt
  exact ⟨R, h.kept.trans K, h.lt, K.mem h.row (by omega)⟩
theorem FdK.begin {w0 w : World} {b : Nat} {l : List UInt8} (R : RdK w0 b l w) : FdK w0 w b l (w.alloc (.cells #[.string ⟨#[]⟩, .int .i64 0, .int .i64 0, .string ⟨#[]⟩, .slice none 0 0, .slice none 0 0] 50)) :=
  ⟨R.al, (KeptB.refl _ _).al, R.lt, heap_alloc_new w _⟩

/-- where a value that is being read stands. -/
structure VlK (w0 w : World) (b : Nat) (k : Int) (r : List UInt8) (w1 : World) (B : Nat) : Prop where
  rd : RdK w0 b r w1
  kept : KeptB b w w1
  lt : b < w.heap.size
  row : w1.heap[w.heap.size]? = some (.cells #[.int .i64 0, .int .i64 0, .string ⟨#[]⟩, .slice none 0 0, .slice none 0 0] 28 (0, 0))
  own : w1.heap[B]? = some (.cells #[.int .i64 k, .int .i64 0, .string ⟨#[]⟩, .slice none 0 0, .slice none 0 0] 28 (0, 0))
  new : w.heap.size < B
theorem VlK.more {w0 w w1 w2 : World} {b B : Nat} {k : Int} {r r2 : List UInt8} (h : VlK w0 w b k r w1 B) (K : KeptB b w1 w2) (R : RdK w0 b r2 w2) : VlK w0 w b k r2 w2 B := by
  have h1 := h.lt
  have h2 := h.new
  exact ⟨R, h.kept.trans K, h.lt, K.mem h.row (by omega), K.mem h.own (by omega), h.new⟩
theorem VlK.begin {w0 w w1 : World} {b : Nat} {r : List UInt8} (lt : b < w.heap.size) (K : KeptB b (w.alloc (.cells #[.int .i64 0, .int .i64 0, .string ⟨#[]⟩, .slice none 0 0, .slice none 0 0] 28)) w1) (R : RdK w0 b r w1) (k : Int) : VlK w0 w b k r (w1.alloc (.cells #[.int .i64 k, .int .i64 0, .string ⟨#[]⟩, .slice none 0 0, .slice none 0 0] 28)) w1.heap.size := by
  have hBa : Below w.heap.size w (w.alloc (.cells #[.int .i64 0, .int .i64 0, .string ⟨#[]⟩, .slice none 0 0, .slice none 0 0] 28)) := (Below.refl _ _).alloc (Nat.le_refl _) _
  have r1 := K.mem (heap_alloc_new w _) (by omega)
  have hA : Below w1.heap.size w1 (w1.alloc (.cells #[.int .i64 k, .int .i64 0, .string ⟨#[]⟩, .slice none 0 0, .slice none 0 0] 28)) := (Below.refl _ _).alloc (Nat.le_refl _) _
  exact ⟨R.same hA, ((KeptB.of_below hBa).trans K).trans (KeptB.of_below hA), lt, (hA.block _ (lt_of_heap r1)).trans r1, heap_alloc_new w1 _, lt_of_heap r1⟩
theorem rep_bare {ok : Nat → Prop} {W : World} (k m : Int) (t : ByteArray) : ∀ n, Rep ok n W ⟨k, m, t, [], []⟩ (.slice none 0 0) (.slice none 0 0)
  | 0 => ⟨rfl, rfl, rfl, rfl⟩
  | _ + 1 => ⟨⟨[], rfl, RowAt.nil, fun e he => (by cases he)⟩, ⟨[], rfl, RowAt.nil, fun e he => (by cases he)⟩⟩
/-- where a value stands when all of it is read, or it is none. -/
structure VeK (w : World) (b : Nat) (k : Int) (w2 : World) (B : Nat) : Prop where
  kept : KeptB b w w2
  row : w2.heap[w.heap.size]? = some (.cells #[.int .i64 0, .int .i64 0, .string ⟨#[]⟩, .slice none 0 0, .slice none 0 0] 28 (0, 0))
  own : w2.heap[B]? = some (.cells #[.int .i64 k, .int .i64 0, .string ⟨#[]⟩, .slice none 0 0, .slice none 0 0] 28 (0, 0))
theorem VlK.over {w0 w w1 w2 : World} {b B : Nat} {k : Int} {r : List UInt8} (h : VlK w0 w b k r w1 B) (K : KeptB b w1 w2) : VeK w b k w2 B := by
  have h1 := h.lt
  have h2 := h.new
  exact ⟨h.kept.trans K, K.mem h.row (by omega), K.mem h.own (by omega)⟩
end Go.Proofs.YtehjdamdlokoaaaDoor
