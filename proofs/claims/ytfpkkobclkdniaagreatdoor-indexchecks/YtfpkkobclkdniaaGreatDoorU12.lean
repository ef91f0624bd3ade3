/-
  The program's index: isName, Check, keyAt, Key by their contracts. No conditions beyond those stated.
  Ways to what stands in values, plain laws: what is put is found, all else is as it was. Conditions: as stated.
  Values that the law makes: names rise all through; the few words of a way, and their places. No conditions beyond those stated.
  The law's Made, Of and Doc by their contracts. No conditions beyond those stated.
-/
import Derived.Test.YtfpkkobclkdniaaGreatDoorU8
import Derived.Test.YtfpkkobclkdniaaGreatDoorU11
import Derived.Test.YtfpkkobclkdniaaGreatDoorU5
import Derived.Test.YtfpkkobclkdniaaGreatDoorU2
import Derived.Test.YtfpkkobclkdniaaGreatDoorU3
import Derived.Test.YtfpkkobclkdniaaGreatDoorU6
namespace Go.Proofs.YtfpkkobclkdniaaGreatDoor
open Go.RowKit

/-- a byte that may be in a name. -/
def inN (c : Int) : Bool := (decide (97 ≤ c) && decide (c ≤ 122)) || (decide (48 ≤ c) && decide (c ≤ 57)) || decide (c = 95)
theorem inName_any (c : Int) (w : World) : Calls Tryz.prog 53 #[.int .u8 c] w fun e w' => e = .returned (.bool (inN c)) ∧ w' = w := by
  unfold inN
  obtain ⟨a1, ha1⟩ : ∃ b, decide (97 ≤ c) = b := ⟨_, rfl⟩
  obtain ⟨a2, ha2⟩ : ∃ b, decide (c ≤ 122) = b := ⟨_, rfl⟩
  obtain ⟨a3, ha3⟩ : ∃ b, decide (48 ≤ c) = b := ⟨_, rfl⟩
  obtain ⟨a4, ha4⟩ : ∃ b, decide (c ≤ 57) = b := ⟨_, rfl⟩
  obtain ⟨a5, ha5⟩ : ∃ b, decide (c = 95) = b := ⟨_, rfl⟩
  have hb5 : (c == 95) = a5 := by rw [← ha5]; rfl
  rw [ha1, ha2, ha3, ha4, ha5]
  cases a1 <;> cases a2 <;> cases a3 <;> cases a4 <;> cases a5 <;>
    (go_enter Tryz.func53, Tryz.ntmps53
     go_wp2
     go_ret
     exact ⟨rfl, rfl⟩)
/-- a name that may be. -/
def nameB (l : List UInt8) : Bool := l.all fun c => inN c.toNat
def nameOK (s : ByteArray) : Bool := decide (s.size ≠ 0) && decide (s.size ≤ 16) && nameB s.data.toList
theorem nameB_take {l : List UInt8} {k : Nat} {x : UInt8} (h : l[k]? = some x) : nameB (l.take (k + 1)) = (nameB (l.take k) && inN x.toNat) := by
  unfold nameB
  rw [List.take_add_one, h, List.all_append]
  simp
theorem nameB_false {l : List UInt8} {k : Nat} {x : UInt8} (h : l[k]? = some x) (hx : inN x.toNat = false) : nameB l = false := by
  unfold nameB
  rw [List.all_eq_false]
  exact ⟨x, List.mem_of_getElem? h, by simp [hx]⟩
set_option maxRecDepth 100000 in
theorem isName_any (s : ByteArray) (w : World) (hs : s.size ≤ 2147483648) : Calls Tryz.prog 34 #[.string s] w fun e w' => e = .returned (.bool (nameOK s)) ∧ w' = w := by
  have hin := fun (c : Int) (b : Bool) (hb : inN c = b) (W : World) => (by rw [← hb]; exact inName_any c W : Calls Tryz.prog 53 #[.int .u8 c] W fun e w' => e = .returned (.bool b) ∧ w' = W)
  by_cases h0 : s.size = 0
  · obtain ⟨e1, e2⟩ := none_size h0
    have : nameOK s = false := by unfold nameOK; simp [h0]
    rw [this]
    clear hin
    go_enter Tryz.func34, Tryz.ntmps34
    go_wp2
    go_ret
    exact ⟨rfl, rfl⟩
  · obtain ⟨e1, e2⟩ := some_size h0
    by_cases h16 : s.size ≤ 16
    · have z16 : ¬ (16 : Int) < (s.size : Int) := by omega
      obtain ⟨r, hr⟩ : ∃ r, nameB s.data.toList = r := ⟨_, rfl⟩
      have : nameOK s = r := by unfold nameOK; simp [h0, h16, hr]
      rw [this]
      have HR := (show Hid _ from hr)
      clear this hr h0 hs
      go_enter Tryz.func34, Tryz.ntmps34
      go_wp2
      go_loopg [3, 13] s.size (fun gg _ i wr => ∃ k : Nat, k ≤ s.size ∧ s.size - k ≤ gg ∧ i = .int .i64 k ∧ Aside (nameB (s.data.toList.take k) = true ∧ wr = w))
      case atStart => exact ⟨0, Nat.zero_le _, by omega, rfl, rfl, rfl⟩
      case round =>
        obtain ⟨k, hk, hgg, rfl, A⟩ := hrel
        obtain ⟨A1, rfl⟩ := A.out
        by_cases hlt : k < s.size
        · obtain ⟨x, hx, hxl⟩ := kd_at hlt
          have z0 : (0 : Int) ≤ (k : Int) := by omega
          have z1 : (k : Int) < (s.size : Int) := by omega
          have HX := (show Hid _ from And.intro hxl A1)
          obtain ⟨b, hb⟩ : ∃ b, inN (x.toNat : Int) = b := ⟨_, rfl⟩
          have hcx := hin (x.toNat : Int) b hb
          have HB := (show Hid _ from hb)
          clear hin hxl A1 hb
          cases b with
          | true =>
            go_wp2_with (go_at_call 53; refine (hcx _).mono ?_; rintro e w' ⟨rfl, rfl⟩)
            go_roundg (s.size - (k + 1))
            case measure => omega
            case rel =>
              refine ⟨k + 1, by omega, by omega, by go_num, ?_, rfl⟩
              rw [nameB_take HX.out.1, HX.out.2, HB.out]
              rfl
          | false =>
            go_wp2_with (go_at_call 53; refine (hcx _).mono ?_; rintro e w' ⟨rfl, rfl⟩)
            go_ret
            have := nameB_false HX.out.1 HB.out
            rw [HR.out] at this
            subst this
            exact ⟨rfl, rfl⟩
        · have zk : ¬ (k : Int) < (s.size : Int) := by omega
          have HT : Hid (s.data.toList.take k = s.data.toList) := List.take_of_length_le (by simp; omega)
          have HA := (show Hid _ from A1)
          clear hin A1
          go_wp2
          go_ret
          have := HA.out
          rw [HT.out, HR.out] at this
          subst this
          exact ⟨rfl, rfl⟩
    · have z16 : (16 : Int) < (s.size : Int) := by omega
      have : nameOK s = false := by unfold nameOK; simp [h16]
      rw [this]
      clear hin
      go_enter Tryz.func34, Tryz.ntmps34
      go_wp2
      go_ret
      exact ⟨rfl, rfl⟩

theorem part_size {s : ByteArray} {ps : List ByteArray} (h : parsePP s = some ps) : ∀ p ∈ ps, p.size ≤ 32 := by
  unfold parsePP at h
  split at h
  · rename_i hc
    cases h
    exact fun p hp => (hc.2.2 p hp).2
  · cases h

/-- an error of a code, or none. -/
def ErrC (c : Int) (w : World) (v : Value) : Prop := if c = 0 then v = .nilIface else (∃ u z, v = .iface u z) ∧ Flt c w v
/-- what is wrong with a description. -/
def errC (name path : ByteArray) : Int := if nameOK name then (if (parsePP path).isSome then 0 else 6) else 5
theorem ErrC.code {c : Int} {w : World} {v : Value} (h : ErrC c w v) (hE : PEnv w) : Calls Tryz.prog 12 #[v] w fun e w' => e = .returned (.int .i64 c) ∧ Below w.heap.size w w' := by
  unfold ErrC at h
  split at h
  · rename_i hc
    subst hc h
    refine (Code_none w).mono ?_
    rintro e w' ⟨rfl, rfl⟩
    exact ⟨rfl, Below.refl _ _⟩
  · exact Flt.code h.2 hE
theorem ErrC.below {c : Int} {w w' : World} {v : Value} (h : ErrC c w v) (hb : Below w.heap.size w w') : ErrC c w' v := by
  unfold ErrC at *
  split
  · rename_i hc; rw [if_pos hc] at h; exact h
  · rename_i hc; rw [if_neg hc] at h; exact ⟨h.1, Flt.below h.2 hb⟩

set_option maxRecDepth 100000 in
theorem Check_any (name path : ByteArray) (u : Bool) (w : World) (hE : PEnv w) (h1 : name.size ≤ 2147483648) (h2 : path.size ≤ 2147483648) :
    Calls Tryz.prog 11 #[.agg #[.string name, .string path, .bool u]] w fun e w' => ∃ v, e = .returned v ∧ ErrC (errC name path) w' v ∧ Below w.heap.size w w' := by
  obtain ⟨W, hW⟩ : ∃ W, w.alloc (.cells #[.string name, .string path, .bool u] 23) = W := ⟨_, rfl⟩
  have hB : Below w.heap.size w W := by rw [← hW]; exact (Below.refl _ _).alloc (Nat.le_refl _) _
  have r0 : W.heap[w.heap.size]? = some (.cells #[.string name, .string path, .bool u] 23) := by rw [← hW]; exact heap_alloc_new _ _
  have c0 : W.cell? ⟨w.heap.size, 0, none⟩ = some (.string name) := by simp [World.cell?, r0]
  have c1 : W.cell? ⟨w.heap.size, 1, none⟩ = some (.string path) := by simp [World.cell?, r0]
  have hn := isName_any name W h1
  have hp := Parse6_any path W (hE.below hB) h2
  have HB := (show Hid _ from hB)
  unfold errC
  cases hok : nameOK name with
  | false =>
    rw [hok] at hn
    rw [if_neg (by decide)]
    clear hB r0 hp hE h1 h2 hok
    go_enter Tryz.func11, Tryz.ntmps11
    go_wp2_with fail
    clear hW
    refine hn.mono ?_
    rintro e w' ⟨rfl, rfl⟩
    go_wp2_with (first | (go_at_call 34; refine hn.mono ?_; rintro e w' ⟨rfl, rfl⟩) | (go_at_call 31; refine (New_some 5 rfl _ _).mono ?_; rintro e w' ⟨rfl, rfl⟩))
    go_ret
    exact ⟨_, rfl, ⟨⟨_, _, rfl⟩, new_flt⟩, HB.out.alloc HB.out.size _⟩
  | true =>
    rw [hok] at hn
    rw [if_pos rfl]
    clear hB r0 hE h1 h2 hok
    cases hpp : parsePP path with
    | none =>
      rw [hpp] at hp
      clear hpp
      go_enter Tryz.func11, Tryz.ntmps11
      go_wp2_with fail
      clear hW
      refine hn.mono ?_
      rintro e w' ⟨rfl, rfl⟩
      go_wp2_with (first | (go_at_call 34; refine hn.mono ?_; rintro e w' ⟨rfl, rfl⟩) | (go_at_call 10; refine hp.mono ?_; rintro e w' ⟨hb2, u2, z2, rfl, hf2⟩; have HF := (show Hid _ from And.intro hb2 hf2); clear hb2 hf2))
      go_ret
      exact ⟨_, rfl, ⟨⟨_, _, rfl⟩, HF.out.2⟩, HB.out.trans (HF.out.1.mono HB.out.size)⟩
    | some ps =>
      rw [hpp] at hp
      clear hpp
      go_enter Tryz.func11, Tryz.ntmps11
      go_wp2_with fail
      clear hW
      refine hn.mono ?_
      rintro e w' ⟨rfl, rfl⟩
      go_wp2_with (first | (go_at_call 34; refine hn.mono ?_; rintro e w' ⟨rfl, rfl⟩) | (go_at_call 10; refine hp.mono ?_; rintro e w' ⟨hb2, v2, rfl, hf2⟩; have HF := (show Hid _ from And.intro hb2 hf2); clear hb2 hf2))
      go_ret
      exact ⟨_, rfl, rfl, HB.out.trans (HF.out.1.mono HB.out.size)⟩

/-- what Key hands back. -/
def KeyAns (o : Option ByteArray) (e : Ending) : Prop := e = .returned (.tuple #[.string (o.getD ⟨#[]⟩), .bool o.isSome])
set_option maxRecDepth 100000 in
theorem keyAt_any (m : Nat) (ps : List ByteArray) (s : Value) (v : V) (l f : Value) (w : World) (hE : PEnv w) (hp : ∀ p ∈ ps, p.size ≤ 32) (hs : StrsAt w s ps) (hL : Lies m w v l f) (hN : Nice 3 v) :
    Calls Tryz.prog 36 #[.agg #[.int .i64 v.kind, .int .i64 v.num, .string v.text, l, f], s] w fun e w' => KeyAns (keyP ps v) e ∧ Below w.heap.size w w' := by
  obtain ⟨a1, c1, a3, c3, rfl, rfl⟩ := hL.slices
  obtain ⟨W, hW⟩ : ∃ W, w.alloc (.cells #[.int .i64 v.kind, .int .i64 v.num, .string v.text, .slice a1 v.list.length c1, .slice a3 v.fields.length c3] 40) = W := ⟨_, rfl⟩
  have hB : Below w.heap.size w W := by rw [← hW]; exact (Below.refl _ _).alloc (Nat.le_refl _) _
  have r0 : W.heap[w.heap.size]? = some (.cells #[.int .i64 v.kind, .int .i64 v.num, .string v.text, .slice a1 v.list.length c1, .slice a3 v.fields.length c3] 40) := by rw [← hW]; exact heap_alloc_new _ _
  have hf := Find6_any m ps s v _ _ W (hE.below hB) (fun p hq => Nat.le_trans (hp p hq) (by decide)) (hs.below hB) (hL.below hB)
  obtain ⟨sa, sc, rfl, -⟩ := hs
  obtain ⟨x0, x1, x2, x3, x4, xf⟩ := row5 r0
  have HB := (show Hid _ from hB)
  unfold keyP
  cases hF : findP v ps with
  | none =>
    rw [hF] at hf
    clear hB r0 hE hp hL hF
    go_enter Tryz.func36, Tryz.ntmps36
    go_wp2_with fail
    clear hW
    refine hf.mono ?_
    rintro e w2 ⟨l2, f2, m2, rfl, hl2, hb2⟩
    obtain ⟨b1, d1, b3, d3, rfl, rfl⟩ := hl2.slices
    have HF := (show Hid _ from hb2)
    clear hb2 hl2 hf
    go_wp2
    go_ret2
    exact ⟨rfl, (HB.out.trans (HF.out.mono HB.out.size)).alloc (Nat.le_trans HB.out.size HF.out.size) _⟩
  | some x =>
    rw [hF] at hf
    have hx := nice_find ps hN hF
    have hf' : Calls Tryz.prog 58 #[.agg #[.int .i64 v.kind, .int .i64 v.num, .string v.text, .slice a1 v.list.length c1, .slice a3 v.fields.length c3], .slice sa ps.length sc] W fun r w' => ∃ l' f' m, r = .returned (.tuple #[.agg #[.int .i64 x.kind, .int .i64 x.num, .string x.text, l', f'], .bool true]) ∧ Lies m w' x l' f' ∧ Below W.heap.size W w' := hf
    have HX := (show Hid _ from hx)
    clear hB r0 hE hp hL hF hf hx
    show Calls _ _ _ _ fun e w' => e = .returned (.tuple #[.string (keyT x), .bool true]) ∧ _
    obtain ⟨kx, hk⟩ : ∃ kx, keyT x = kx := ⟨_, rfl⟩
    rw [hk]
    have HK := (show Hid _ from hk)
    clear hk
    go_enter Tryz.func36, Tryz.ntmps36
    go_wp2_with fail
    clear hW
    refine hf'.mono ?_
    rintro e w2 ⟨l2, f2, m2, rfl, hl2, hb2⟩
    have hl4 := lies_nice 3 hl2 HX.out
    obtain ⟨b1, d1, b3, d3, rfl, rfl⟩ := hl2.slices
    obtain ⟨W3, hW3⟩ : ∃ W3, w2.alloc (.cells #[.int .i64 x.kind, .int .i64 x.num, .string x.text, .slice b1 x.list.length d1, .slice b3 x.fields.length d3] 40) = W3 := ⟨_, rfl⟩
    have hB3 : Below w2.heap.size w2 W3 := by rw [← hW3]; exact (Below.refl _ _).alloc (Nat.le_refl _) _
    have r3 : W3.heap[w2.heap.size]? = some (.cells #[.int .i64 x.kind, .int .i64 x.num, .string x.text, .slice b1 x.list.length d1, .slice b3 x.fields.length d3] 40) := by rw [← hW3]; exact heap_alloc_new _ _
    obtain ⟨y0, y1, y2, y3, y4, yf⟩ := row5 r3
    have hput := KPut_any 4 x _ _ W3 (hl4.below hB3) (nice_kfit 4 x (Nice.moreI 3 HX.out)) (Nat.le_trans (put_len 4 x (Nice.moreI 3 HX.out)) (by decide)) ((key_four HX.out).trans HK.out)
    have HF := (show Hid _ from And.intro hb2 hB3)
    clear hb2 hl2 hf' hl4 hB3 r3
    go_wp2_with fail
    clear hW3
    refine hput.mono ?_
    rintro e w4 ⟨rfl, hb4⟩
    have H4 := (show Hid _ from hb4)
    clear hput hb4
    go_wp2
    go_ret2
    exact ⟨rfl, ((HB.out.trans (HF.out.1.mono HB.out.size)).trans (HF.out.2.mono (Nat.le_trans HB.out.size HF.out.1.size))).trans (H4.out.mono (Nat.le_trans (Nat.le_trans HB.out.size HF.out.1.size) HF.out.2.size))⟩

/-- a value's key of a description. -/
def keyS (path : ByteArray) (v : V) : Option ByteArray := (parsePP path).bind fun ps => keyP ps v
set_option maxRecDepth 100000 in
theorem Key_any (m : Nat) (name path : ByteArray) (u : Bool) (v : V) (l f : Value) (w : World) (hE : PEnv w) (h2 : path.size ≤ 2147483648) (hL : Lies m w v l f) (hN : Nice 3 v) :
    Calls Tryz.prog 13 #[.agg #[.string name, .string path, .bool u], .agg #[.int .i64 v.kind, .int .i64 v.num, .string v.text, l, f]] w fun e w' => KeyAns (keyS path v) e ∧ Below w.heap.size w w' := by
  obtain ⟨a1, c1, a3, c3, rfl, rfl⟩ := hL.slices
  obtain ⟨W, hW⟩ : ∃ W, (w.alloc (.cells #[.string name, .string path, .bool u] 23)).alloc (.cells #[.int .i64 v.kind, .int .i64 v.num, .string v.text, .slice a1 v.list.length c1, .slice a3 v.fields.length c3] 40) = W := ⟨_, rfl⟩
  have hB : Below w.heap.size w W := by rw [← hW]; exact ((Below.refl _ _).alloc (Nat.le_refl _) _).alloc (by simp) _
  have q0 : W.heap[w.heap.size]? = some (.cells #[.string name, .string path, .bool u] 23) := by rw [← hW]; exact heap_alloc2_old
  have r0 : W.heap[w.heap.size + 1]? = some (.cells #[.int .i64 v.kind, .int .i64 v.num, .string v.text, .slice a1 v.list.length c1, .slice a3 v.fields.length c3] 40) := by rw [← hW]; exact heap_alloc2_new
  have c1' : W.cell? ⟨w.heap.size, 1, none⟩ = some (.string path) := by simp [World.cell?, q0]
  have hp := Parse6_any path W (hE.below hB) h2
  have HB := (show Hid _ from And.intro hB (And.intro (hE.below hB) (And.intro (hL.below hB) (And.intro hN r0))))
  unfold keyS
  cases hpp : parsePP path with
  | none =>
    rw [hpp] at hp
    clear hpp hB q0 r0 hE h2 hL hN
    go_enter Tryz.func13, Tryz.ntmps13
    go_wp2_with fail
    clear hW
    refine hp.mono ?_
    rintro e w' ⟨hb2, u2, z2, rfl, hf2⟩
    have HF := (show Hid _ from hb2)
    clear hb2 hf2
    go_wp2
    go_ret2
    exact ⟨rfl, HB.out.1.trans (HF.out.mono HB.out.1.size)⟩
  | some ps =>
    rw [hpp] at hp
    have HP := (show Hid _ from part_size hpp)
    clear hpp hB q0 r0 hE h2 hL hN
    show Calls _ _ _ _ fun e w' => KeyAns (keyP ps v) e ∧ _
    obtain ⟨o, ho⟩ : ∃ o, keyP ps v = o := ⟨_, rfl⟩
    rw [ho]
    have HO := (show Hid _ from ho)
    clear ho
    go_enter Tryz.func13, Tryz.ntmps13
    go_wp2_with fail
    clear hW
    refine hp.mono ?_
    rintro e w2 ⟨hb2, v2, rfl, hst⟩
    obtain ⟨hB, hE, hL, hN, r0⟩ := HB.out
    have r2 := (hb2.block _ (lt_of_heap r0)).trans r0
    obtain ⟨x0, x1, x2, x3, x4, xf⟩ := row5 r2
    have hk := keyAt_any m ps v2 v _ _ w2 (hE.below hb2) HP.out hst (hL.below hb2) hN
    rw [HO.out] at hk
    obtain ⟨sa, sc, rfl, -⟩ := hst
    have HF := (show Hid _ from hb2)
    clear hb2 hB hE hL hN r0 r2 hp
    cases o with
    | none =>
      go_wp2_with fail
      refine hk.mono ?_
      rintro e w3 ⟨he, hb3⟩
      obtain rfl : e = .returned (.tuple #[.string ⟨#[]⟩, .bool false]) := he
      have H3 := (show Hid _ from hb3)
      clear hb3 hk
      go_wp2
      go_ret2
      exact ⟨rfl, (HB.out.1.trans (HF.out.mono HB.out.1.size)).trans (H3.out.mono (Nat.le_trans HB.out.1.size HF.out.size))⟩
    | some k =>
      go_wp2_with fail
      refine hk.mono ?_
      rintro e w3 ⟨he, hb3⟩
      obtain rfl : e = .returned (.tuple #[.string k, .bool true]) := he
      have H3 := (show Hid _ from hb3)
      clear hb3 hk
      go_wp2
      go_ret2
      exact ⟨rfl, (HB.out.1.trans (HF.out.mono HB.out.1.size)).trans (H3.out.mono (Nat.le_trans HB.out.1.size HF.out.size))⟩
end Go.Proofs.YtfpkkobclkdniaaGreatDoor

namespace Go.Proofs.YtfpkkobclkdniaaGreatDoor

theorem V.eta (v : V) : (⟨v.kind, v.num, v.text, v.list, v.fields⟩ : V) = v := by cases v; rfl
/-- names rise, so deep. -/
def Up : Nat → V → Prop
  | 0, _ => True
  | n + 1, v => Rises v.fields ∧ (∀ x ∈ v.list, Up n x) ∧ ∀ p ∈ v.fields, Up n p.2
theorem getF_mem {name : ByteArray} {x : V} : ∀ {fs : List (ByteArray × V)}, getF name fs = some x → ∃ p ∈ fs, p.2 = x ∧ cmpT p.1 name = 0
  | [], h => by cases h
  | f :: fs, h => by
    rw [getF_cons] at h
    split at h
    · rename_i h1
      exact ⟨f, by simp, Option.some.inj h, h1⟩
    · obtain ⟨p, hp, e⟩ := getF_mem h
      exact ⟨p, by simp [hp], e⟩
theorem set_same {name : ByteArray} {x : V} : ∀ {fs : List (ByteArray × V)}, Rises fs → getF name fs = some x → setF name x fs = fs
  | [], _, h => by cases h
  | f :: fs, hr, h => by
    have ih := @set_same name x fs hr.tail
    have hab := @get_above name fs f hr
    rw [getF_cons] at h
    simp only [setF]
    split at h
    · rename_i h1
      have e := Option.some.inj h
      rw [if_pos h1, ← e]
    · rename_i h1
      rw [if_neg h1]
      split
      · rename_i h2
        have := hab h2
        rw [getF_cons, if_neg h1] at this
        rw [this] at h
        cases h
      · rw [ih h]
theorem set_del {name : ByteArray} {x : V} : ∀ {fs : List (ByteArray × V)}, Rises fs → getF name fs = some x → setF name x (delF name fs) = fs
  | [], _, h => by cases h
  | f :: fs, hr, h => by
    have ih := @set_del name x fs hr.tail
    have hab := @get_above name fs f hr
    rw [getF_cons] at h
    simp only [delF]
    split at h
    · rename_i h1
      have e := Option.some.inj h
      have en := cmpT_eq h1
      rw [if_pos h1]
      cases fs with
      | nil => simp only [setF, ← en, ← e]
      | cons g gs =>
        have h2 := hr.1
        have a := good_cmpT.anti f.1 g.1
        simp only [setF]
        rw [← en, if_neg (by omega), if_pos (by omega), ← e]
    · rename_i h1
      rw [if_neg h1]
      simp only [setF]
      rw [if_neg h1]
      split
      · rename_i h2
        have := hab h2
        rw [getF_cons, if_neg h1] at this
        rw [this] at h
        cases h
      · rw [ih h]
theorem list_set_get {α : Type} {l : List α} {i : Nat} {x : α} (h : l[i]? = some x) (y : α) : (l.set i y)[i]? = some y := by
  have := (List.getElem?_eq_some_iff.1 h).1
  simp [this]
theorem list_set_self {α : Type} {l : List α} {i : Nat} {x : α} (h : l[i]? = some x) : l.set i x = l := by
  obtain ⟨h1, h2⟩ := List.getElem?_eq_some_iff.1 h
  rw [← h2]
  exact List.set_getElem_self h1

theorem put_cons {v : V} {p : ByteArray} {ps : List ByteArray} {x y : V} (h : putP v (p :: ps) x = some y) :
    (v.kind = 5 ∧ ∃ z, putP ((getF p v.fields).getD objE) ps x = some z ∧ y = { v with fields := setF p z v.fields }) ∨
    (v.kind = 4 ∧ ∃ i u z, placeOf p = some i ∧ v.list[i]? = some u ∧ putP u ps x = some z ∧ y = { v with list := v.list.set i z }) := by
  unfold putP at h
  split at h
  · rename_i hk
    obtain ⟨z, hz, rfl⟩ := Option.map_eq_some_iff.1 h
    exact .inl ⟨hk, z, hz, rfl⟩
  · split at h
    · rename_i hk
      obtain ⟨i, hi, h⟩ := Option.bind_eq_some_iff.1 h
      obtain ⟨u, hu, h⟩ := Option.bind_eq_some_iff.1 h
      obtain ⟨z, hz, rfl⟩ := Option.map_eq_some_iff.1 h
      exact .inr ⟨hk, i, u, z, hi, hu, hz, rfl⟩
    · cases h
/-- what is put is found there. -/
theorem put_find : ∀ (ps : List ByteArray) (v x y : V), putP v ps x = some y → findP y ps = some x
  | [], v, x, y, h => by cases h; rfl
  | p :: ps, v, x, y, h => by
    rcases put_cons h with ⟨hk, z, hz, rfl⟩ | ⟨hk, i, u, z, hi, hu, hz, rfl⟩
    · have ih := put_find ps _ x z hz
      show (atP _ p).bind _ = _
      have : atP { v with fields := setF p z v.fields } p = some z := by
        unfold atP
        rw [if_pos (show v.kind = 5 from hk)]
        exact get_set_same p z v.fields
      rw [this]
      exact ih
    · have ih := put_find ps _ x z hz
      show (atP _ p).bind _ = _
      have : atP { v with list := v.list.set i z } p = some z := by
        unfold atP
        rw [if_neg (show ¬ v.kind = 5 by omega), if_pos (show v.kind = 4 from hk), hi]
        exact list_set_get hu z
      rw [this]
      exact ih
theorem put_kind {v : V} {p : ByteArray} {ps : List ByteArray} {x y : V} (h : putP v (p :: ps) x = some y) : y.kind = v.kind := by
  rcases put_cons h with ⟨hk, z, hz, rfl⟩ | ⟨hk, i, u, z, hi, hu, hz, rfl⟩ <;> rfl
/-- another part finds what it found. -/
theorem put_other {v : V} {p q : ByteArray} {ps : List ByteArray} {x y : V} (h : putP v (p :: ps) x = some y) (h1 : ¬ cmpT q p = 0) (h2 : ∀ i, placeOf p = some i → placeOf q ≠ some i) : atP y q = atP v q := by
  rcases put_cons h with ⟨hk, z, hz, rfl⟩ | ⟨hk, i, u, z, hi, hu, hz, rfl⟩
  · unfold atP
    rw [if_pos (show v.kind = 5 from hk), if_pos hk]
    exact get_set_other p q z h1 v.fields
  · unfold atP
    rw [if_neg (show ¬ v.kind = 5 by omega), if_pos (show v.kind = 4 from hk), if_neg (show ¬ v.kind = 5 by omega), if_pos hk]
    rcases hq : placeOf q with _ | j
    · rfl
    · have hne : i ≠ j := fun e => h2 i hi (by rw [hq, e])
      show (v.list.set i z)[j]? = v.list[j]?
      rw [List.getElem?_set_ne hne]
theorem put_empty : ∀ (ps : List ByteArray) (x : V), ∃ y, putP objE ps x = some y
  | [], x => ⟨x, rfl⟩
  | p :: ps, x => by
    obtain ⟨y, hy⟩ := put_empty ps x
    refine ⟨{ objE with fields := setF p y [] }, ?_⟩
    unfold putP
    rw [if_pos (show objE.kind = 5 from rfl)]
    show (putP objE ps x).map _ = _
    rw [hy]; rfl
/-- is there a place? -/
def mayP (v : V) : List ByteArray → Bool
  | [] => true
  | p :: ps => match atP v p with
    | none => v.kind = 5
    | some x => mayP x ps
theorem put_may : ∀ (ps : List ByteArray) (v x : V), (putP v ps x).isSome = mayP v ps
  | [], _, _ => rfl
  | p :: ps, v, x => by
    unfold putP mayP atP
    by_cases hk : v.kind = 5
    · rw [if_pos hk, if_pos hk]
      rcases hg : getF p v.fields with _ | z
      · obtain ⟨y, hy⟩ := put_empty ps x
        show ((putP objE ps x).map _).isSome = decide (v.kind = 5)
        rw [hy]
        simp [hk]
      · have ih := put_may ps z x
        show ((putP z ps x).map _).isSome = mayP z ps
        rw [← ih]
        cases putP z ps x <;> rfl
    · rw [if_neg hk, if_neg hk]
      by_cases h4 : v.kind = 4
      · rw [if_pos h4, if_pos h4]
        rcases hi : placeOf p with _ | i
        · show false = decide (v.kind = 5)
          simp [hk]
        · rcases hu : v.list[i]? with _ | u
          · simp [hu, hk]
          · have ih := put_may ps u x
            simp only [Option.bind_some, hu]
            rw [← ih]
            cases putP u ps x <;> rfl
      · rw [if_neg h4, if_neg h4]
        simp [hk]
/-- by what is there already all is as it was. -/
theorem put_same : ∀ (ps : List ByteArray) (n : Nat) (v x : V), ps.length ≤ n → Up n v → findP v ps = some x → putP v ps x = some v
  | [], _, v, x, _, _, h => by cases h; rfl
  | p :: ps, 0, _, _, hn, _, _ => by simp at hn
  | p :: ps, n + 1, v, x, hn, hu, h => by
    obtain ⟨hr, hl, hf⟩ := hu
    obtain ⟨z, hz, h⟩ := Option.bind_eq_some_iff.1 (show (atP v p).bind _ = some x from h)
    unfold atP at hz
    unfold putP
    split at hz
    · rename_i hk
      obtain ⟨q, hq, rfl, _⟩ := getF_mem hz
      rw [if_pos hk, hz]
      show (putP q.2 ps x).map _ = _
      rw [put_same ps n q.2 x (by simpa using hn) (hf q hq) h]
      show some { v with fields := setF p q.2 v.fields } = some v
      rw [set_same hr hz, V.eta]
    · rename_i hk
      split at hz
      · rename_i h4
        obtain ⟨i, hi, hz⟩ := Option.bind_eq_some_iff.1 hz
        rw [if_neg hk, if_pos h4, hi]
        show (v.list[i]?).bind _ = _
        rw [hz]
        show (putP z ps x).map _ = _
        rw [put_same ps n z x (by simpa using hn) (hl z (List.mem_of_getElem? hz)) h]
        show some { v with list := v.list.set i z } = some v
        rw [list_set_self hz, V.eta]
      · cases hz
/-- put back what was there: all is as it was. -/
theorem put_back : ∀ (ps : List ByteArray) (n : Nat) (v a x y : V), ps.length ≤ n → Up n v → findP v ps = some x → putP v ps a = some y → putP y ps x = some v
  | [], _, v, a, x, y, _, _, h, _ => by cases h; rfl
  | p :: ps, 0, _, _, _, _, hn, _, _, _ => by simp at hn
  | p :: ps, n + 1, v, a, x, y, hn, hu, h, hp => by
    obtain ⟨hr, hl, hf⟩ := hu
    obtain ⟨z, hz, h⟩ := Option.bind_eq_some_iff.1 (show (atP v p).bind _ = some x from h)
    unfold atP at hz
    rcases put_cons hp with ⟨hk, z', hz', rfl⟩ | ⟨hk, i, u, z', hi, hui, hz', rfl⟩
    · rw [if_pos hk] at hz
      obtain ⟨q, hq, rfl, _⟩ := getF_mem hz
      rw [hz] at hz'
      have ih := put_back ps n q.2 a x z' (by simpa using hn) (hf q hq) h hz'
      unfold putP
      rw [if_pos (show v.kind = 5 from hk)]
      show (putP ((getF p (setF p z' v.fields)).getD objE) ps x).map _ = _
      rw [get_set_same]
      show (putP z' ps x).map _ = _
      rw [ih]
      show some { v with fields := setF p q.2 (setF p z' v.fields) } = some v
      rw [set_back p z' q.2 hr hz, V.eta]
    · rw [if_neg (by omega), if_pos hk, hi] at hz
      have hz : v.list[i]? = some z := hz
      rw [hui] at hz
      have e := Option.some.inj hz
      subst e
      have ih := put_back ps n u a x z' (by simpa using hn) (hl u (List.mem_of_getElem? hui)) h hz'
      unfold putP
      rw [if_neg (show ¬ v.kind = 5 by omega), if_pos (show v.kind = 4 from hk), hi]
      show ((v.list.set i z')[i]?).bind _ = _
      rw [list_set_get hui]
      show (putP z' ps x).map _ = _
      rw [ih]
      show some { v with list := (v.list.set i z').set i u } = some v
      rw [List.set_set, list_set_self hui, V.eta]

theorem find_append : ∀ (ps qs : List ByteArray) (v : V), findP v (ps ++ qs) = (findP v ps).bind fun x => findP x qs
  | [], _, _ => rfl
  | p :: ps, qs, v => by
    show (atP v p).bind (fun x => findP x (ps ++ qs)) = ((atP v p).bind fun x => findP x ps).bind _
    cases atP v p with
    | none => rfl
    | some x => exact find_append ps qs x
theorem cut_cons {v : V} {p q : ByteArray} {ps : List ByteArray} {y : V} (h : cutP v (p :: q :: ps) = some y) :
    (v.kind = 5 ∧ ∃ u z, getF p v.fields = some u ∧ cutP u (q :: ps) = some z ∧ y = { v with fields := setF p z v.fields }) ∨
    (v.kind = 4 ∧ ∃ i u z, placeOf p = some i ∧ v.list[i]? = some u ∧ cutP u (q :: ps) = some z ∧ y = { v with list := v.list.set i z }) := by
  unfold cutP at h
  split at h
  · rename_i hk
    obtain ⟨u, hu, h⟩ := Option.bind_eq_some_iff.1 h
    obtain ⟨z, hz, rfl⟩ := Option.map_eq_some_iff.1 h
    exact .inl ⟨hk, u, z, hu, hz, rfl⟩
  · split at h
    · rename_i hk
      obtain ⟨i, hi, h⟩ := Option.bind_eq_some_iff.1 h
      obtain ⟨u, hu, h⟩ := Option.bind_eq_some_iff.1 h
      obtain ⟨z, hz, rfl⟩ := Option.map_eq_some_iff.1 h
      exact .inr ⟨hk, i, u, z, hi, hu, hz, rfl⟩
    · cases h
/-- is there an object with that field? -/
def hasF (o : Option V) (p : ByteArray) : Bool := match o with
  | none => false
  | some o => decide (o.kind = 5) && (getF p o.fields).isSome
/-- it is cut just if the others find an object with that field. -/
theorem cut_some : ∀ (ps : List ByteArray) (p : ByteArray) (v : V), (cutP v (ps ++ [p])).isSome = hasF (findP v ps) p
  | [], p, v => by
    show (cutP v [p]).isSome = (decide (v.kind = 5) && (getF p v.fields).isSome)
    unfold cutP
    by_cases h : v.kind = 5
    · by_cases h2 : (getF p v.fields).isSome = true
      · rw [if_pos ⟨h, h2⟩, h2]; simp [h]
      · rw [if_neg (fun e => h2 e.2)]
        simp only [Bool.not_eq_true] at h2
        rw [h2]; simp
    · rw [if_neg (fun e => h e.1)]; simp [h]
  | [r], p, v => by
    have ih := fun u => cut_some [] p u
    show (cutP v (r :: p :: [])).isSome = _
    unfold cutP
    show _ = hasF ((atP v r).bind (fun x => findP x [])) p
    unfold atP
    by_cases hk : v.kind = 5
    · rw [if_pos hk, if_pos hk]
      cases hg : getF r v.fields with
      | none => rfl
      | some u =>
        show ((cutP u [p]).map _).isSome = (decide (u.kind = 5) && (getF p u.fields).isSome)
        rw [Option.isSome_map]
        exact ih u
    · rw [if_neg hk, if_neg hk]
      by_cases h4 : v.kind = 4
      · rw [if_pos h4, if_pos h4]
        cases placeOf r with
        | none => rfl
        | some i =>
          show ((v.list[i]?).bind _).isSome = hasF ((v.list[i]?).bind _) p
          cases v.list[i]? with
          | none => rfl
          | some u =>
            show ((cutP u [p]).map _).isSome = (decide (u.kind = 5) && (getF p u.fields).isSome)
            rw [Option.isSome_map]
            exact ih u
      · rw [if_neg h4, if_neg h4]; rfl
  | r :: s :: ps, p, v => by
    have ih := fun u => cut_some (s :: ps) p u
    show (cutP v (r :: s :: (ps ++ [p]))).isSome = _
    unfold cutP
    show _ = hasF ((atP v r).bind (fun x => findP x (s :: ps))) p
    unfold atP
    by_cases hk : v.kind = 5
    · rw [if_pos hk, if_pos hk]
      cases hg : getF r v.fields with
      | none => rfl
      | some u =>
        show ((cutP u (s :: (ps ++ [p]))).map _).isSome = hasF (findP u (s :: ps)) p
        rw [Option.isSome_map]
        exact ih u
    · rw [if_neg hk, if_neg hk]
      by_cases h4 : v.kind = 4
      · rw [if_pos h4, if_pos h4]
        cases placeOf r with
        | none => rfl
        | some i =>
          show ((v.list[i]?).bind _).isSome = hasF ((v.list[i]?).bind _) p
          cases v.list[i]? with
          | none => rfl
          | some u =>
            show ((cutP u (s :: (ps ++ [p]))).map _).isSome = hasF (findP u (s :: ps)) p
            rw [Option.isSome_map]
            exact ih u
      · rw [if_neg h4, if_neg h4]; rfl
/-- what is cut is there no more; put there anew all is as it was. -/
theorem cut_gone : ∀ (ps : List ByteArray) (n : Nat) (v y : V), ps.length ≤ n → Up n v → cutP v ps = some y → findP y ps = none ∧ ∀ was, findP v ps = some was → putP y ps was = some v
  | [], _, _, _, _, _, h => by cases h
  | _ :: _, 0, _, _, hn, _, _ => by simp at hn
  | [p], n + 1, v, y, _, hu, h => by
    obtain ⟨hr, _, _⟩ := hu
    unfold cutP at h
    split at h
    · rename_i hk
      cases h
      refine ⟨?_, fun was hw => ?_⟩
      · show (atP _ p).bind _ = none
        have : atP { v with fields := delF p v.fields } p = none := by
          unfold atP
          rw [if_pos (show v.kind = 5 from hk.1)]
          exact get_del p hr
        rw [this]; rfl
      · have hw : (atP v p).bind (fun x => some x) = some was := hw
        have hw : getF p v.fields = some was := by simpa [atP, hk.1] using hw
        unfold putP
        rw [if_pos (show v.kind = 5 from hk.1)]
        show some { v with fields := setF p was (delF p v.fields) } = some v
        rw [set_del hr hw, V.eta]
    · cases h
  | p :: q :: ps, n + 1, v, y, hn, hu, h => by
    obtain ⟨hr, hl, hf⟩ := hu
    rcases cut_cons h with ⟨hk, u, z, hu, hz, rfl⟩ | ⟨hk, i, u, z, hi, hu, hz, rfl⟩
    · obtain ⟨e, he, rfl, _⟩ := getF_mem hu
      obtain ⟨i1, i2⟩ := cut_gone (q :: ps) n e.2 z (by simpa using hn) (hf e he) hz
      refine ⟨?_, fun was hw => ?_⟩
      · show (atP _ p).bind _ = none
        have : atP { v with fields := setF p z v.fields } p = some z := by
          unfold atP
          rw [if_pos (show v.kind = 5 from hk)]
          exact get_set_same p z v.fields
        rw [this]; exact i1
      · have hw : (atP v p).bind (fun x => findP x (q :: ps)) = some was := hw
        unfold atP at hw
        rw [if_pos hk, hu, Option.bind_some] at hw
        unfold putP
        rw [if_pos (show v.kind = 5 from hk)]
        show (putP ((getF p (setF p z v.fields)).getD objE) (q :: ps) was).map _ = _
        rw [get_set_same]
        show (putP z (q :: ps) was).map _ = _
        rw [i2 was hw]
        show some { v with fields := setF p e.2 (setF p z v.fields) } = some v
        rw [set_back p z e.2 hr hu, V.eta]
    · obtain ⟨i1, i2⟩ := cut_gone (q :: ps) n u z (by simpa using hn) (hl u (List.mem_of_getElem? hu)) hz
      refine ⟨?_, fun was hw => ?_⟩
      · show (atP _ p).bind _ = none
        have : atP { v with list := v.list.set i z } p = some z := by
          unfold atP
          rw [if_neg (show ¬ v.kind = 5 by omega), if_pos (show v.kind = 4 from hk), hi]
          exact list_set_get hu z
        rw [this]; exact i1
      · have hw : (atP v p).bind (fun x => findP x (q :: ps)) = some was := hw
        unfold atP at hw
        rw [if_neg (show ¬ v.kind = 5 by omega), if_pos hk, hi] at hw
        have hw : ((v.list[i]?).bind fun x => findP x (q :: ps)) = some was := hw
        rw [hu, Option.bind_some] at hw
        unfold putP
        rw [if_neg (show ¬ v.kind = 5 by omega), if_pos (show v.kind = 4 from hk), hi]
        show ((v.list.set i z)[i]?).bind _ = _
        rw [list_set_get hu]
        show (putP z (q :: ps) was).map _ = _
        rw [i2 was hw]
        show some { v with list := (v.list.set i z).set i u } = some v
        rw [List.set_set, list_set_self hu, V.eta]
end Go.Proofs.YtfpkkobclkdniaaGreatDoor

namespace Go.Proofs.YtfpkkobclkdniaaGreatDoor
open Go.RowKit

theorem Nice.up : ∀ (n : Nat) (v : V), Nice n v → Up (n + 1) v
  | 0, v, h => by
    obtain ⟨_, _, _, _, h5, h6⟩ := h
    refine ⟨by rw [h6]; trivial, fun x hx => ?_, fun p hp => ?_⟩
    · rw [h5] at hx; cases hx
    · rw [h6] at hp; cases hp
  | n + 1, v, h => by
    obtain ⟨_, _, _, _, _, _, h7, h8, h9⟩ := h
    exact ⟨h7, fun x hx => Nice.up n x (h8 x hx), fun p hp => Nice.up n p.2 (h9 p hp).2⟩
/-- the words that a way is made of. -/
def wayAt (i : Nat) : ByteArray := match i % 10 with
  | 0 => ⟨#[97]⟩ | 1 => ⟨#[98]⟩ | 2 => ⟨#[99]⟩ | 3 => ⟨#[110]⟩ | 4 => ⟨#[48]⟩ | 5 => ⟨#[49]⟩ | 6 => ⟨#[50]⟩ | 7 => ⟨#[48, 48]⟩ | 8 => ⟨#[120]⟩ | _ => ⟨#[45, 49]⟩
/-- those of which the law asks. -/
def askAt (i : Nat) : ByteArray := match i with
  | 0 => ⟨#[97]⟩ | 1 => ⟨#[98]⟩ | 2 => ⟨#[99]⟩ | 3 => ⟨#[110]⟩ | 4 => ⟨#[48]⟩ | 5 => ⟨#[49]⟩ | 6 => ⟨#[50]⟩ | _ => ⟨#[120]⟩
theorem itoa0 : Lib.itoa 0 = [48] := by unfold Lib.itoa; rw [if_neg (by decide)]; show Lib.decDigits 0 = _; rw [Lib.decDigits]; rfl
theorem itoa1 : Lib.itoa 1 = [49] := by unfold Lib.itoa; rw [if_neg (by decide)]; show Lib.decDigits 1 = _; rw [Lib.decDigits]; rfl
theorem itoa2 : Lib.itoa 2 = [50] := by unfold Lib.itoa; rw [if_neg (by decide)]; show Lib.decDigits 2 = _; rw [Lib.decDigits]; rfl
theorem place0 : placeOf ⟨#[48]⟩ = some 0 := by
  show (if 0 ≤ (0 : Int) ∧ Lib.itoa 0 = [48] then some (0 : Int).toNat else none) = _
  rw [itoa0]; rfl
theorem place1 : placeOf ⟨#[49]⟩ = some 1 := by
  show (if 0 ≤ (1 : Int) ∧ Lib.itoa 1 = [49] then some (1 : Int).toNat else none) = _
  rw [itoa1]; rfl
theorem place2 : placeOf ⟨#[50]⟩ = some 2 := by
  show (if 0 ≤ (2 : Int) ∧ Lib.itoa 2 = [50] then some (2 : Int).toNat else none) = _
  rw [itoa2]; rfl
theorem place00 : placeOf ⟨#[48, 48]⟩ = none := by
  show (if 0 ≤ (0 : Int) ∧ Lib.itoa 0 = [48, 48] then some (0 : Int).toNat else none) = _
  rw [itoa0]; rfl
theorem way_place (i : Nat) : placeOf (wayAt i) = if i % 10 = 4 then some 0 else if i % 10 = 5 then some 1 else if i % 10 = 6 then some 2 else none := by
  have h : i % 10 < 10 := Nat.mod_lt _ (by decide)
  unfold wayAt
  generalize i % 10 = k at *
  rcases (by omega : k = 0 ∨ k = 1 ∨ k = 2 ∨ k = 3 ∨ k = 4 ∨ k = 5 ∨ k = 6 ∨ k = 7 ∨ k = 8 ∨ k = 9) with rfl | rfl | rfl | rfl | rfl | rfl | rfl | rfl | rfl | rfl <;> first | rfl | exact place0 | exact place1 | exact place2 | exact place00
theorem ask_place (i : Nat) (hi : i < 8) : placeOf (askAt i) = if i = 4 then some 0 else if i = 5 then some 1 else if i = 6 then some 2 else none := by
  rcases (by omega : i = 0 ∨ i = 1 ∨ i = 2 ∨ i = 3 ∨ i = 4 ∨ i = 5 ∨ i = 6 ∨ i = 7) with rfl | rfl | rfl | rfl | rfl | rfl | rfl | rfl <;> first | rfl | exact place0 | exact place1 | exact place2
/-- two of them that are not the same have not the same place. -/
theorem ask_apart (i j : Nat) (hi : i < 8) (h : ¬ cmpT (askAt i) (wayAt j) = 0) : ∀ k, placeOf (wayAt j) = some k → placeOf (askAt i) ≠ some k := by
  intro k hk hq
  apply h
  rw [way_place] at hk
  rw [ask_place i hi] at hq
  have hj : j % 10 < 10 := Nat.mod_lt _ (by decide)
  have e : (j % 10 = 4 ∧ k = 0) ∨ (j % 10 = 5 ∧ k = 1) ∨ (j % 10 = 6 ∧ k = 2) := by
    repeat' split at hk
    all_goals simp at hk
    all_goals omega
  have e2 : (i = 4 ∧ k = 0) ∨ (i = 5 ∧ k = 1) ∨ (i = 6 ∧ k = 2) := by
    repeat' split at hq
    all_goals simp at hq
    all_goals omega
  unfold wayAt
  rcases e with ⟨ej, rfl⟩ | ⟨ej, rfl⟩ | ⟨ej, rfl⟩
  · obtain rfl : i = 4 := by omega
    rw [ej]; exact good_cmpT.refl _
  · obtain rfl : i = 5 := by omega
    rw [ej]; exact good_cmpT.refl _
  · obtain rfl : i = 6 := by omega
    rw [ej]; exact good_cmpT.refl _
end Go.Proofs.YtfpkkobclkdniaaGreatDoor

namespace Go.Proofs.YtfpkkobclkdniaaGreatDoor
open Go.RowKit

theorem Made_any : ∀ (d : Nat), d ≤ 100 → MakesAt d ((d : Int) + 1)
  | d, hd, W, s, [], hb, hT => by
    obtain ⟨a, cap, rfl, _, _, _⟩ := hb
    exact Made_empty d _ a cap W
  | d, hd, W, s, u :: bs, hb, hT => by
    obtain ⟨a, cap, rfl⟩ : ∃ a cap, s = .slice a (u :: bs).length cap := by
      obtain ⟨a, cap, h, _⟩ := hb
      exact ⟨a, cap, h⟩
    have hr : (u.toNat : Int) % 6 = 0 ∨ (u.toNat : Int) % 6 = 1 ∨ (u.toNat : Int) % 6 = 2 ∨ (u.toNat : Int) % 6 = 3 ∨ (u.toNat : Int) % 6 = 4 ∨ (u.toNat : Int) % 6 = 5 := by omega
    rcases hr with hr | hr | hr | hr | hr | hr
    · exact Made_zero d _ u bs a cap W hb hr
    · exact Made_bool d _ u bs a cap W hb hr
    · exact Made_int d _ u bs a cap W hb hr
    · exact Made_text d _ u bs a cap W hb hT hr
    · cases d with
      | zero => exact Made_four 0 _ u bs a cap W hb (by simp) hr
      | succ d =>
        have ih := Made_any d (by omega)
        rw [show ((d : Int) + 1) = (((d + 1 : Nat) : Int) + 1) - 1 by omega] at ih
        exact Made_list d _ (by omega) (by omega) ih u bs a cap W hb hT hr
    · cases d with
      | zero => exact Made_five 0 _ u bs a cap W hb (by simp) hr
      | succ d =>
        have ih := Made_any d (by omega)
        rw [show ((d : Int) + 1) = (((d + 1 : Nat) : Int) + 1) - 1 by omega] at ih
        refine (Made_obj d _ (by omega) (by omega) ih u bs a cap W hb hT hr).mono ?_
        rintro e w' ⟨x, l, f, r, he, h, _⟩
        exact ⟨x, l, f, r, he, h⟩

theorem BytesAt.take {W : World} {a : Option Addr} {cap : Nat} {bs : List UInt8} (h : BytesAt W (.slice a bs.length cap) bs) (n : Nat) : BytesAt W (.slice a (bs.take n).length cap) (bs.take n) := by
  obtain ⟨a', cap', h1, h2, h3, h4⟩ := h
  simp only [Value.slice.injEq, true_and] at h1
  obtain ⟨rfl, rfl⟩ := h1
  refine ⟨_, _, rfl, by simp; omega, h3, fun hne => ?_⟩
  obtain ⟨b, o, e, h6⟩ := h4 (fun e => hne (by rw [e]; simp))
  refine ⟨b, o, e, fun j v hj => h6 j v ?_⟩
  rw [List.getElem?_take] at hj
  split at hj
  · exact hj
  · cases hj

/-- a value as the law makes it, and where it lies. -/
def OfV (w w' : World) (x : V) (l f : Value) : Prop := Nice 3 x ∧ Rep (fun k => w.heap.size ≤ k) 3 w' x l f ∧ Below w.heap.size w w'

set_option maxHeartbeats 1000000 in
theorem Of_any (s : Value) (bs : List UInt8) (w : World) (hb : BytesAt w s bs) (hT : Tabs w) : Calls Tryz.prog 16 #[s] w
    fun e w' => ∃ x l f, e = .returned (.agg #[.int .i64 x.kind, .int .i64 x.num, .string x.text, l, f]) ∧ OfV w w' x l f := by
  obtain ⟨a, cap, rfl⟩ : ∃ a cap, s = .slice a bs.length cap := by
    obtain ⟨a, cap, h, _⟩ := hb
    exact ⟨a, cap, h⟩
  have hcap : bs.length ≤ cap ∧ cap ≤ 9223372036854775807 := by
    obtain ⟨a', cap', h1, h2, h3, h4⟩ := hb
    simp only [Value.slice.injEq, true_and] at h1
    obtain ⟨rfl, rfl⟩ := h1
    exact ⟨h2, h3⟩
  obtain ⟨h1, h2⟩ := hcap
  have hbt := hb.take 60
  rw [List.length_take] at hbt
  have hm0 : 0 ≤ min (bs.length : Int) 60 := by omega
  have hm1 : min (bs.length : Int) 60 ≤ (cap : Int) := by omega
  have hmn : (min (bs.length : Int) 60).toNat = min 60 bs.length := by omega
  have hM := fun o => Made_any 3 (by omega) (w.alloc o) _ _ (hbt.below ((Below.refl _ _).alloc (Nat.le_refl _) _)) (hT.below ((Below.refl _ _).alloc (Nat.le_refl _) _))
  rw [show (((3 : Nat) : Int) + 1) = 4 from rfl] at hM
  clear hbt hb
  go_enter Tryz.func16, Tryz.ntmps16
  go_wp2_with fail
  refine (hM _).mono ?_
  rintro e w1 ⟨x, l, f, r, rfl, hnx, hrx, -, hb1⟩
  obtain ⟨bl, dl, bf, df, rfl, rfl⟩ := hrx.slices
  have q1 := row_below hb1 (heap_alloc_new w _)
  obtain ⟨o0, o1, o2, o3, o4, of⟩ := row5 q1
  have hz1 : w.heap.size < w1.heap.size := lt_of_heap q1
  have hB1 : Below w.heap.size w w1 := ((Below.refl _ _).alloc (Nat.le_refl _) _).trans (hb1.mono (by simp))
  have S := (show Hid _ from And.intro hnx hrx)
  clear hnx hrx hb1 q1
  go_wp2
  refine bodyPost_ret (v := .agg #[.int .i64 x.kind, .int .i64 x.num, .string x.text, .slice bl x.list.length dl, .slice bf x.fields.length df]) (by simp [results, Tryz.results16, go_sem, o0, o1, o2, o3, o4, hz1]) rfl ⟨x, _, _, rfl, S.out.1, ?_, ?_⟩
  · refine S.out.2.move fun b hb hl => ⟨by simp at hb; omega, ?_⟩
    rw [Below.heap_alloc _ _ b (by simpa using hl)]
    exact set5W_ne w1 w.heap.size 0 1 2 3 4 _ _ _ _ _ (by simp at hb; omega)
  · exact (set5W_below hB1 (Nat.le_refl _) 0 1 2 3 4 _ _ _ _ _).alloc (by rw [set5W_size]; omega) _
end Go.Proofs.YtfpkkobclkdniaaGreatDoor
