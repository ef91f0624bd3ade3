/-
  The program's writer of keys. Conditions: as stated.
  What the walks of stage 3's laws share: quiet regions, and the program's Cmp and Same by the number that they answer. No conditions beyond those stated.
-/
import Derived.Test.YtfpkkobclkdniaaGreatDoorU2
import Derived.Test.YtfpkkobclkdniaaGreatDoorU4
import Derived.Deep.AppendLies
import Derived.Laws.Bits64
import Derived.Laws.IdiomStrings
import Derived.Test.YtfpkkobclkdniaaGreatDoorU3
import Derived.Lib.QuietBelow
import Derived.BigQuiet
namespace Go.Proofs.YtfpkkobclkdniaaGreatDoor
open Go.RowKit

def cellsB (l : List UInt8) : List Value := l.map fun u => Value.int .u8 (u.toNat : Int)
/-- a row of bytes that is the call's own, made behind w0. -/
structure Ow (w0 : World) (s : Value) (l : List UInt8) (w : World) : Prop where
  below : Below w0.heap.size w0 w
  own : w.ownsRow w0.heap.size 5 1 s l.length (cellsB l)
/-- what writing leaves as it was. -/
structure Kp (s : Value) (w : World) (s' : Value) (w' : World) : Prop where
  size : w.heap.size ≤ w'.heap.size
  block : ∀ k, k < w.heap.size → s.ownBlock ≠ some k → w'.heap[k]? = w.heap[k]?
  own : s'.ownBlock = s.ownBlock ∨ ∃ g, s'.ownBlock = some g ∧ w.heap.size ≤ g
theorem Kp.refl (s : Value) (w : World) : Kp s w s w := ⟨Nat.le_refl _, fun _ _ _ => rfl, .inl rfl⟩
theorem Kp.trans {s s1 s2 : Value} {w w1 w2 : World} (h : Kp s w s1 w1) (k : Kp s1 w1 s2 w2) : Kp s w s2 w2 := by
  refine ⟨Nat.le_trans h.size k.size, fun i hi hs => ?_, ?_⟩
  · refine (k.block i (Nat.lt_of_lt_of_le hi h.size) ?_).trans (h.block i hi hs)
    rcases h.own with e | ⟨g, e, hg⟩
    · rw [e]; exact hs
    · rw [e]; intro e2; have := Option.some.inj e2; omega
  · rcases k.own with e | ⟨g, e, hg⟩
    · rcases h.own with e2 | ⟨g, e2, hg⟩
      · exact .inl (e.trans e2)
      · exact .inr ⟨g, e.trans e2, hg⟩
    · exact .inr ⟨g, e, Nat.le_trans h.size hg⟩
theorem Kp.of_below {s : Value} {w w' : World} (h : Below w.heap.size w w') : Kp s w s w' := ⟨h.size, fun k hk _ => h.block k hk, .inl rfl⟩
theorem Ow.same {w0 w w' : World} {s : Value} {l : List UInt8} (h : Ow w0 s l w) (hb : Below w.heap.size w w') : Ow w0 s l w' :=
  ⟨h.below.trans (hb.mono h.below.size), ownsRow_move (fun b hb' hl => ⟨(h.own.lt b hb').1, hb.block b hl⟩) h.own⟩
theorem Ow.nil {w0 w : World} (h : Below w0.heap.size w0 w) : Ow w0 (.slice none 0 0) [] w := ⟨h, World.ownsRow_nil _ _ _ _⟩
theorem Kp.row {s s' : Value} {w w' : World} {b : Nat} {o : Obj} (h : Kp s w s' w') (hb : w.heap[b]? = some o) (hne : s.ownBlock ≠ some b) : w'.heap[b]? = some o := (h.block b (lt_of_heap hb) hne).trans hb
theorem cellsB_append (l m : List UInt8) : cellsB (l ++ m) = cellsB l ++ cellsB m := by simp [cellsB]
theorem infoU8K : (Tryz.prog.info? 5).map (fun i => (i.zero, i.size, i.bytes)) = some (some (.int .u8 0), 1, 1) := by kernel_rfl

/-- bytes that were laid are appended. -/
theorem append_bytes {ops : Array Oper} {rest : List Oper} {o : Oper} {a : Act} {Q : Exit → Act → World → Prop} (hgd : o.guard = none) (s x : Operand)
    (ho : o.op = .call { callee := .builtin .append, args := #[s, x], argTypes := #[24, 24] })
    {w0 w : World} {sv : Value} {l : List UInt8} (h : Ow w0 sv l w) (cs : List UInt8) (arr : Array Value) (n : Nat) (hn : cs.length = n) (h0 : 0 < n) (harr : arr.toList = cellsB cs) (hs : a.eval s = sv) (hx : a.eval x = .slice (some ⟨w.heap.size, 0, none⟩) n n) (hl : l.length + n ≤ 1000000000)
    (k : ∀ sv' w', Ow w0 sv' (l ++ cs) w' → Kp sv w sv' w' → wpList Tryz.prog ops Q rest (a.put o.dst sv') w') : wpList Tryz.prog ops Q (o :: rest) a (w.alloc (.cells arr 5)) := by
  obtain ⟨i0, hi, hz0, hz1, hz2⟩ := info_parts infoU8K
  have hB : Below w.heap.size w (w.alloc (.cells arr 5)) := (Below.refl _ _).alloc (Nat.le_refl _) _
  have h1 := h.same hB
  have hnews : ∀ j u, (cellsB cs)[j]? = some u → (w.alloc (.cells arr 5)).cell? ((⟨w.heap.size, 0, none⟩ : Addr).add j) = some u := by
    have hh : (w.alloc (.cells arr 5)).heap[w.heap.size]? = some (.cells arr 5) := heap_alloc_new w _
    rw [← harr]
    exact World.news_of_block hh
  have hone : ∀ v ∈ cellsB cs, v.oneCell' = true := by
    intro v hv
    obtain ⟨y, _, rfl⟩ := List.mem_map.1 hv
    rfl
  refine wpList_append_lies _ hgd s x 24 ho w0.heap.size 5 i0 _ 1 1 Tryz.underlying24 hi hz0 hz1 hz2 rfl (by decide) sv l.length (cellsB l) hs h1.own ⟨w.heap.size, 0, none⟩ n n (cellsB cs) hx (by simp [cellsB, hn]) hnews hone h0 (by unfold maxLen; omega) (by omega) h1.below.size _ rfl ?_
  intro g cap w3 hown3 hgrow3 hlie hlt3
  refine k _ w3 ⟨h1.below.grown hgrow3 h1.below.size (fun k e => (h.own.lt k e).1), ?_⟩ ⟨?_, ?_, ?_⟩
  · rw [cellsB_append, List.length_append, hn]; exact hown3
  · exact Nat.le_trans hB.size hgrow3.size
  · intro k hk hne
    exact (hgrow3.block k (Nat.lt_of_lt_of_le hk hB.size) (fun e => hne e.symm)).trans (hB.block k hk)
  · rcases hlie with e | e
    · exact .inl e.symm
    · exact .inr ⟨g, rfl, by rw [e]; simp⟩


/-- a call that writes behind a row. -/
def Wrote (w0 : World) (s : Value) (w : World) (l more : List UInt8) (e : Ending) (w' : World) : Prop := ∃ s', e = .returned s' ∧ Ow w0 s' (l ++ more) w' ∧ Kp s w s' w'

def tw (n : Int) : Int := if n < 0 then n + 9223372036854775808 else n - 9223372036854775808
theorem nat_xor_top (a : Nat) (h : a < 18446744073709551616) : a ^^^ 9223372036854775808 = if a < 9223372036854775808 then a + 9223372036854775808 else a - 9223372036854775808 := by
  have d : (a ^^^ 2 ^ 63) / 2 ^ 63 = a / 2 ^ 63 ^^^ 2 ^ 63 / 2 ^ 63 := Nat.xor_div_two_pow
  have m : (a ^^^ 2 ^ 63) % 2 ^ 63 = (a % 2 ^ 63) ^^^ (2 ^ 63 % 2 ^ 63) := Nat.xor_mod_two_pow
  rw [show (2 : Nat) ^ 63 = 9223372036854775808 from rfl] at d m
  rw [Nat.mod_self, Nat.xor_zero] at m
  rw [Nat.div_self (by decide)] at d
  have hq : a / 9223372036854775808 = 0 ∨ a / 9223372036854775808 = 1 := by omega
  rcases hq with hq | hq
  · rw [hq, show (0 ^^^ 1 : Nat) = 1 from rfl] at d
    rw [if_pos (by omega)]
    omega
  · rw [hq, show (1 ^^^ 1 : Nat) = 0 from rfl] at d
    rw [if_neg (by omega)]
    omega
theorem wrap_i64 (n : Int) : IntKind.i64.wrap n = if n % 18446744073709551616 ≥ 9223372036854775808 then n % 18446744073709551616 - 18446744073709551616 else n % 18446744073709551616 := by
  simp [IntKind.wrap, IntKind.bits, IntKind.signed]
theorem xor_top (n : Int) (h : I64 n) : bits .xor .i64 n (-9223372036854775808) = tw n := by
  obtain ⟨h1, h2⟩ := h
  show IntKind.i64.wrap ((BitVec.ofInt 64 n ^^^ BitVec.ofInt 64 (-9223372036854775808)).toNat : Int) = _
  have e1 : (BitVec.ofInt 64 (-9223372036854775808)).toNat = 9223372036854775808 := by decide
  have e2 : (((BitVec.ofInt 64 n).toNat : Nat) : Int) = n % 18446744073709551616 := by
    rw [BitVec.toNat_ofInt]
    show ((n % ((2 ^ 64 : Nat) : Int)).toNat : Int) = _
    rw [show ((2 ^ 64 : Nat) : Int) = 18446744073709551616 from rfl]
    omega
  have e3 : (BitVec.ofInt 64 n).toNat < 18446744073709551616 := (BitVec.ofInt 64 n).isLt
  rw [BitVec.toNat_xor, e1, nat_xor_top _ e3, wrap_i64]
  unfold tw
  split <;> split <;> omega
theorem wrap_tw (n : Int) (h : I64 n) : IntKind.u64.wrap (tw n) = (turnN n : Int) := by
  obtain ⟨h1, h2⟩ := h
  rw [IntKind.wrap_u64]
  unfold tw turnN
  split <;> omega
theorem tw_bounds (n : Int) (h : I64 n) : -9223372036854775808 ≤ tw n ∧ tw n ≤ 9223372036854775807 := by
  obtain ⟨h1, h2⟩ := h
  unfold tw
  split <;> omega

theorem turned_any (n : Int) (h : I64 n) (w : World) : Calls Tryz.prog 122 #[.int .i64 n] w fun e w' => e = .returned (.int .i64 (tw n)) ∧ w' = w := by
  have hx := xor_top n h
  clear h
  go_enter Tryz.func122, Tryz.ntmps122
  go_wp2
  go_ret
  exact ⟨rfl, rfl⟩

theorem byte_cell (U : Int) (m K : Nat) (hU : (m : Int) = U) : [Value.int .u8 (U / (K : Int) % 256)] = cellsB [UInt8.ofNat (m / K)] := by
  subst hU
  simp only [cellsB, List.map_cons, List.map_nil, UInt8.toNat_ofNat', List.cons.injEq, Value.int.injEq, true_and, and_true]
  omega
theorem byte_cell1 (U : Int) (m : Nat) (hU : (m : Int) = U) : [Value.int .u8 (U % 256)] = cellsB [UInt8.ofNat m] := by
  subst hU
  simp only [cellsB, List.map_cons, List.map_nil, UInt8.toNat_ofNat', List.cons.injEq, Value.int.injEq, true_and, and_true]
  omega

set_option maxRecDepth 100000 in
set_option maxHeartbeats 4000000 in
theorem putInt_any (n : Int) (hn : I64 n) (w0 w : World) (s : Value) (l : List UInt8) (h : Ow w0 s l w) (hl : l.length + 8 ≤ 1000000000) :
    Calls Tryz.prog 101 #[s, .int .i64 n] w (Wrote w0 s w l (intL n)) := by
  have hcall := turned_any n hn w
  obtain ⟨m, hm⟩ : ∃ m, m = turnN n := ⟨_, rfl⟩
  obtain ⟨U, hU⟩ : ∃ U : Int, (m : Int) = U := ⟨_, rfl⟩
  have hw : IntKind.u64.wrap (tw n) = U := by rw [wrap_tw n hn, ← hm, hU]
  obtain ⟨t, ht⟩ : ∃ t, t = tw n := ⟨_, rfl⟩
  rw [← ht] at hcall hw
  have HI : intL n = eight m := by rw [hm]; rfl
  have HU := (show Hid _ from hU)
  have HI := (show Hid _ from HI)
  have H0 := (show Hid _ from And.intro h (Kp.refl s w))
  have HL := (show Hid _ from hl)
  clear h hl hm hU ht hn
  go_enter Tryz.func101, Tryz.ntmps101
  go_wp2_with fail
  refine hcall.mono ?_
  rintro e w1 ⟨rfl, rfl⟩
  go_wp2_with fail
  refine wp_loop_rounds 9 ?_
  rw [rounds_succ]
  go_wp2_with (first | (at_builtin; refine append_bytes rfl (.tmp 14) (.tmp 20) rfl H0.out.1 [UInt8.ofNat (m / 72057594037927936)] _ 1 rfl (by decide) (byte_cell U m 72057594037927936 HU.out) rfl rfl (by have := HL.out; simp; omega) ?_; intro s1 u1 h1 k1; have H1 := (show Hid _ from And.intro h1 (H0.out.2.trans k1)); clear h1 k1))
  rw [rounds_succ]
  go_wp2_with (first | (at_builtin; refine append_bytes rfl (.tmp 14) (.tmp 20) rfl H1.out.1 [UInt8.ofNat (m / 281474976710656)] _ 1 rfl (by decide) (byte_cell U m 281474976710656 HU.out) rfl rfl (by have := HL.out; simp; omega) ?_; intro s2 u2 h1 k1; have H2 := (show Hid _ from And.intro h1 (H1.out.2.trans k1)); clear h1 k1))
  rw [rounds_succ]
  go_wp2_with (first | (at_builtin; refine append_bytes rfl (.tmp 14) (.tmp 20) rfl H2.out.1 [UInt8.ofNat (m / 1099511627776)] _ 1 rfl (by decide) (byte_cell U m 1099511627776 HU.out) rfl rfl (by have := HL.out; simp; omega) ?_; intro s3 u3 h1 k1; have H3 := (show Hid _ from And.intro h1 (H2.out.2.trans k1)); clear h1 k1))
  rw [rounds_succ]
  go_wp2_with (first | (at_builtin; refine append_bytes rfl (.tmp 14) (.tmp 20) rfl H3.out.1 [UInt8.ofNat (m / 4294967296)] _ 1 rfl (by decide) (byte_cell U m 4294967296 HU.out) rfl rfl (by have := HL.out; simp; omega) ?_; intro s4 u4 h1 k1; have H4 := (show Hid _ from And.intro h1 (H3.out.2.trans k1)); clear h1 k1))
  rw [rounds_succ]
  go_wp2_with (first | (at_builtin; refine append_bytes rfl (.tmp 14) (.tmp 20) rfl H4.out.1 [UInt8.ofNat (m / 16777216)] _ 1 rfl (by decide) (byte_cell U m 16777216 HU.out) rfl rfl (by have := HL.out; simp; omega) ?_; intro s5 u5 h1 k1; have H5 := (show Hid _ from And.intro h1 (H4.out.2.trans k1)); clear h1 k1))
  rw [rounds_succ]
  go_wp2_with (first | (at_builtin; refine append_bytes rfl (.tmp 14) (.tmp 20) rfl H5.out.1 [UInt8.ofNat (m / 65536)] _ 1 rfl (by decide) (byte_cell U m 65536 HU.out) rfl rfl (by have := HL.out; simp; omega) ?_; intro s6 u6 h1 k1; have H6 := (show Hid _ from And.intro h1 (H5.out.2.trans k1)); clear h1 k1))
  rw [rounds_succ]
  go_wp2_with (first | (at_builtin; refine append_bytes rfl (.tmp 14) (.tmp 20) rfl H6.out.1 [UInt8.ofNat (m / 256)] _ 1 rfl (by decide) (byte_cell U m 256 HU.out) rfl rfl (by have := HL.out; simp; omega) ?_; intro s7 u7 h1 k1; have H7 := (show Hid _ from And.intro h1 (H6.out.2.trans k1)); clear h1 k1))
  rw [rounds_succ]
  go_wp2_with (first | (at_builtin; refine append_bytes rfl (.tmp 14) (.tmp 20) rfl H7.out.1 [UInt8.ofNat m] _ 1 rfl (by decide) (byte_cell1 U m HU.out) rfl rfl (by have := HL.out; simp; omega) ?_; intro s8 u8 h1 k1; have H8 := (show Hid _ from And.intro h1 (H7.out.2.trans k1)); clear h1 k1))
  rw [rounds_succ]
  go_wp2_with fail
  go_ret
  refine ⟨s8, rfl, ?_, H8.out.2⟩
  rw [HI.out]
  simpa [eight] using H8.out.1

theorem kd_at {s : ByteArray} {k : Nat} (h : k < s.size) : ∃ x : UInt8, s[k]'h = x ∧ s.data.toList[k]? = some x := by
  have hl : k < s.data.toList.length := by simpa using h
  exact ⟨s[k]'h, rfl, by rw [List.getElem?_eq_getElem hl]; rfl⟩
theorem flat_take {α : Type} (f : α → List UInt8) {l : List α} {k : Nat} {x : α} (h : l[k]? = some x) : (l.take (k + 1)).flatMap f = (l.take k).flatMap f ++ f x := by
  rw [List.take_add_one, h]; simp
theorem flat_take_len {α : Type} (f : α → List UInt8) (l : List α) (k : Nat) : ((l.take k).flatMap f).length ≤ (l.flatMap f).length := by
  have : l.flatMap f = (l.take k).flatMap f ++ (l.drop k).flatMap f := by rw [← List.flatMap_append, List.take_append_drop]
  rw [this, List.length_append]; omega

set_option maxRecDepth 100000 in
set_option maxHeartbeats 4000000 in
theorem putText_any (t : ByteArray) (w0 w : World) (s : Value) (l : List UInt8) (h : Ow w0 s l w) (ht : t.size ≤ 1000000) (hl : l.length + (writtenL t.data.toList).length ≤ 1000000000) :
    Calls Tryz.prog 102 #[s, .string t] w (Wrote w0 s w l (writtenL t.data.toList)) := by
  have HH := (show Hid _ from And.intro h hl)
  clear h hl
  go_enter Tryz.func102, Tryz.ntmps102
  go_wp2_with fail
  go_loopg [0, 5, 8] t.size (fun gg s0 _ i wr => ∃ k : Nat, k ≤ t.size ∧ t.size - k ≤ gg ∧ i = .int .i64 k ∧ Aside (Ow w0 s0 (l ++ (t.data.toList.take k).flatMap wr1) wr ∧ Kp s w s0 wr))
  case atStart => exact ⟨0, Nat.zero_le _, by omega, rfl, by simpa using HH.out.1, Kp.refl _ _⟩
  case round =>
    rename_i s0 s5 i8 wr
    obtain ⟨k, hk, hgg, rfl, A⟩ := hrel
    by_cases hlt : k < t.size
    · obtain ⟨x, hx, hxl⟩ := kd_at hlt
      have hst := flat_take wr1 hxl
      have hsl := flat_take_len wr1 t.data.toList (k + 1)
      have z0 : (0 : Int) ≤ (k : Int) := by omega
      have z1 : (k : Int) < (t.size : Int) := by omega
      have HS := (show Hid _ from And.intro hst hsl)
      clear hst hsl hxl
      by_cases hx0 : x = 0
      · subst hx0
        have HW : Hid (wr1 0 = [0, 255]) := rfl
        have HB1 : Hid (l.length + ((t.data.toList.take k).flatMap wr1).length + 4 ≤ 1000000000) := by
          obtain ⟨hst, hsl⟩ := HS.out
          have := HH.out.2
          rw [hst, List.length_append, HW.out] at hsl
          unfold writtenL at this
          rw [List.length_append] at this
          simp only [List.length_cons, List.length_nil] at this hsl
          show _ ≤ _
          omega
        go_wp2_with (first | (at_builtin; refine append_bytes rfl (.tmp 11) (.tmp 15) rfl A.out.1 [0] _ 1 rfl (by decide) rfl rfl rfl (by have := HB1.out; rw [List.length_append]; omega) ?_; intro s1 u1 h1 k1; have H1 := (show Hid _ from And.intro h1 (A.out.2.trans k1)); clear h1 k1) | (at_builtin; refine append_bytes rfl (.tmp 21) (.tmp 22) rfl H1.out.1 [255] _ 1 rfl (by decide) rfl rfl rfl (by have := HB1.out; rw [List.length_append, List.length_append]; simp only [List.length_cons, List.length_nil]; omega) ?_; intro s2 u2 h1 k1; have H2 := (show Hid _ from And.intro h1 (H1.out.2.trans k1)); clear h1 k1))
        go_roundg (t.size - (k + 1))
        case measure => omega
        case rel =>
          refine ⟨k + 1, by omega, by omega, by go_num, ?_, H2.out.2⟩
          rw [HS.out.1, HW.out]
          simpa [List.append_assoc] using H2.out.1
      · have hne : ((x.toNat : Int) == 0) = false := by
          simp
          intro e
          exact hx0 (UInt8.toNat_inj.1 (by simpa using e))
        have HW : Hid (wr1 x = [x]) := if_neg hx0
        have HB1 : Hid (l.length + ((t.data.toList.take k).flatMap wr1).length + 3 ≤ 1000000000) := by
          obtain ⟨hst, hsl⟩ := HS.out
          have := HH.out.2
          rw [hst, List.length_append, HW.out] at hsl
          unfold writtenL at this
          rw [List.length_append] at this
          simp only [List.length_cons, List.length_nil] at this hsl
          show _ ≤ _
          omega
        clear hx0
        go_wp2_with (first | (at_builtin; refine append_bytes rfl (.tmp 11) (.tmp 15) rfl A.out.1 [x] _ 1 rfl (by decide) rfl rfl rfl (by have := HB1.out; rw [List.length_append]; omega) ?_; intro s1 u1 h1 k1; have H1 := (show Hid _ from And.intro h1 (A.out.2.trans k1)); clear h1 k1))
        go_roundg (t.size - (k + 1))
        case measure => omega
        case rel =>
          refine ⟨k + 1, by omega, by omega, by go_num, ?_, H1.out.2⟩
          rw [HS.out.1, HW.out]
          simpa [List.append_assoc] using H1.out.1
    · have zk : ¬ (k : Int) < (t.size : Int) := by omega
      have HT : Hid ((t.data.toList.take k) = t.data.toList) := List.take_of_length_le (by simp; omega)
      have HB1 : Hid (l.length + ((t.data.toList.take k).flatMap wr1).length + 2 ≤ 1000000000) := by
        have := HH.out.2
        unfold writtenL at this
        rw [List.length_append] at this
        rw [HT.out]
        simp only [List.length_cons, List.length_nil] at this
        show _ ≤ _
        omega
      go_wp2_with (first | (at_builtin; refine append_bytes rfl (.tmp 25) (.tmp 26) rfl A.out.1 [0, 1] _ 2 rfl (by decide) rfl rfl rfl (by have := HB1.out; rw [List.length_append]; omega) ?_; intro s1 u1 h1 k1; have H1 := (show Hid _ from And.intro h1 (A.out.2.trans k1)); clear h1 k1))
      go_ret
      refine ⟨s1, rfl, ?_, H1.out.2⟩
      have := H1.out.1
      rw [HT.out] at this
      unfold writtenL
      simpa [List.append_assoc] using this

/-- a value that has a key. -/
def KFit : Nat → V → Prop
  | 0, v => 0 ≤ v.kind ∧ v.kind ≤ 5 ∧ I64 v.num ∧ (v.kind = 1 → v.num = 0 ∨ v.num = 1) ∧ v.text.size ≤ 1000000
  | n + 1, v => (0 ≤ v.kind ∧ v.kind ≤ 5 ∧ I64 v.num ∧ (v.kind = 1 → v.num = 0 ∨ v.num = 1) ∧ v.text.size ≤ 1000000) ∧ (∀ x ∈ v.list, KFit n x) ∧ ∀ p ∈ v.fields, p.1.size ≤ 1000000 ∧ KFit n p.2
theorem KFit.here {n : Nat} {v : V} (h : KFit n v) : 0 ≤ v.kind ∧ v.kind ≤ 5 ∧ I64 v.num ∧ (v.kind = 1 → v.num = 0 ∨ v.num = 1) ∧ v.text.size ≤ 1000000 := by
  cases n with
  | zero => exact h
  | succ n => exact h.1
/-- the same, the laid block's number as the walk writes it. -/
theorem append_bytes2 {ops : Array Oper} {rest : List Oper} {o : Oper} {a : Act} {Q : Exit → Act → World → Prop} (hgd : o.guard = none) (s x : Operand)
    (ho : o.op = .call { callee := .builtin .append, args := #[s, x], argTypes := #[24, 24] })
    {w0 w : World} {sv : Value} {l : List UInt8} (h : Ow w0 sv l w) (cs : List UInt8) (arr : Array Value) (n : Nat) (hn : cs.length = n) (h0 : 0 < n) (harr : arr.toList = cellsB cs) (hs : a.eval s = sv) (H : Nat) (hx : a.eval x = .slice (some ⟨H, 0, none⟩) n n) (hH : w.heap.size = H) (hl : l.length + n ≤ 1000000000)
    (k : ∀ sv' w', Ow w0 sv' (l ++ cs) w' → Kp sv w sv' w' → wpList Tryz.prog ops Q rest (a.put o.dst sv') w') : wpList Tryz.prog ops Q (o :: rest) a (w.alloc (.cells arr 5)) := by
  subst hH
  exact append_bytes hgd s x ho h cs arr n hn h0 harr hs hx hl k

/-- put, so deep. -/
def PutAt (n : Nat) : Prop := ∀ (w0 : World) (v : V) (l f : Value), Lies n w0 v l f → KFit n v → ∀ (s : Value) (out : List UInt8) (w : World), Ow w0 s out w → out.length + (putV (n + 1) v).length ≤ 1000000000 →
  Calls Tryz.prog 82 #[s, .agg #[.int .i64 v.kind, .int .i64 v.num, .string v.text, l, f]] w (Wrote w0 s w out (putV (n + 1) v))

set_option maxRecDepth 100000 in
set_option maxHeartbeats 4000000 in
theorem putList_any (n : Nat) (w0 : World) (xs : List El) (ih : xs ≠ [] → PutAt n) (sl : Value) (hrow : RowAt (fun _ => True) w0 40 5 sl xs.length (encEs xs)) (hl : ∀ e ∈ xs, Lies n w0 e.v e.l e.f) (hf : ∀ e ∈ xs, KFit n e.v)
    (s : Value) (out : List UInt8) (w : World) (h : Ow w0 s out w) (vs : List V) (hvs : vs = xs.map El.v) (hlen : out.length + (vs.flatMap (putV (n + 1)) ++ [0]).length ≤ 1000000000) :
    Calls Tryz.prog 103 #[s, sl] w (Wrote w0 s w out (vs.flatMap (putV (n + 1)) ++ [0])) := by
  obtain ⟨aa, ca, rfl⟩ := hrow.slice
  have na := hrow.2.1
  rw [List.length_append] at hlen
  have HH := (show Hid _ from And.intro hrow (And.intro hl (And.intro hf (And.intro hvs (And.intro hlen h)))))
  have hI := (show Hid _ from And.intro ih ih)
  clear hrow hl hf hvs hlen ih h
  go_enter Tryz.func103, Tryz.ntmps103
  go_wp2_with fail
  go_loopg [0, 6, 9] xs.length (fun gg s0 _ i wr => ∃ k : Nat, k ≤ xs.length ∧ xs.length - k ≤ gg ∧ i = .int .i64 k ∧ Aside (Ow w0 s0 (out ++ (vs.take k).flatMap (putV (n + 1))) wr ∧ Kp s w s0 wr))
  case atStart => exact ⟨0, Nat.zero_le _, by omega, rfl, by simpa using HH.out.2.2.2.2.2, Kp.refl _ _⟩
  case round =>
    obtain ⟨k, hk, hgg, rfl, A⟩ := hrel
    by_cases hlt : k < xs.length
    · obtain ⟨hrow, hl, hf, hvs, hlen, h⟩ := HH.out
      obtain ⟨b0, c', e1, hb0, _, hc1, hc2, _⟩ := hrow.cells (by omega)
      simp only [Value.slice.injEq, true_and] at e1
      obtain ⟨rfl, rfl⟩ := e1
      obtain ⟨⟨xv, xl, xf⟩, hx⟩ : ∃ x, xs[k]? = some x := ⟨_, List.getElem?_eq_getElem hlt⟩
      have OA := A.out.1
      obtain ⟨a0, a1, a2, a3, a4⟩ := (hrow.move fun c _ hl => ⟨trivial, OA.below.block c hl⟩).el hx
      have hlx : Lies n w0 xv xl xf := hl _ (List.mem_of_getElem? hx)
      have hfx : KFit n xv := hf _ (List.mem_of_getElem? hx)
      simp only at a0 a1 a2 a3 a4
      obtain ⟨al, cl, af, cf, rfl, rfl⟩ := hlx.slices
      have hvk : vs[k]? = some xv := by rw [hvs, List.getElem?_map, hx]; rfl
      have hst := flat_take (putV (n + 1)) hvk
      have hsl := flat_take_len (putV (n + 1)) vs (k + 1)
      rw [hst, List.length_append] at hsl
      obtain ⟨O, hO⟩ : ∃ O, O = Obj.cells #[.int .i64 xv.kind, .int .i64 xv.num, .string xv.text, .slice al xv.list.length cl, .slice af xv.fields.length cf] 40 := ⟨_, rfl⟩
      have hBa : Below wr.heap.size wr (wr.alloc O) := (Below.refl _ _).alloc (Nat.le_refl _) _
      have hcall := hI.out.1 (fun e => by rw [e] at hlt; exact absurd hlt (Nat.not_lt_zero _)) w0 xv _ _ hlx hfx _ _ (wr.alloc O) (OA.same hBa) (by rw [List.length_append]; simp only [List.length_cons, List.length_nil] at hlen; omega)
      rw [hO] at hcall
      have zk : (k : Int) < (xs.length : Int) := by omega
      have hb0r : b0 < wr.heap.size := lt_of_cell a0
      have H2 := (show Hid _ from And.intro hst (And.intro hO hBa))
      clear hrow hl hf hvs hlen h OA hlx hfx hvk hst hsl hO hBa hx
      go_wp2_with fail
      refine hcall.mono ?_
      rintro e w2 ⟨s2, rfl, h2, k2⟩
      obtain ⟨hst, hO, hBa⟩ := H2.out
      rw [← hO] at k2
      have k3 := (A.out.2.trans (Kp.of_below hBa)).trans k2
      have H3 := (show Hid _ from And.intro h2 k3)
      clear hcall h2 k2 k3 hst hO hBa
      go_wp2_with fail
      go_roundg (xs.length - (k + 1))
      case measure => omega
      case rel =>
        refine ⟨k + 1, by omega, by omega, by go_num, ?_, H3.out.2⟩
        rw [H2.out.1, ← List.append_assoc]
        exact H3.out.1
    · have zk : ¬ (k : Int) < (xs.length : Int) := by omega
      have HT : Hid (vs.take k = vs) := List.take_of_length_le (by rw [HH.out.2.2.2.1]; simp; omega)
      have HB1 : Hid (out.length + ((vs.take k).flatMap (putV (n + 1))).length + 1 ≤ 1000000000) := by
        have := HH.out.2.2.2.2.1
        simp only [List.length_cons, List.length_nil] at this
        rw [HT.out]
        show _ ≤ _
        omega
      go_wp2_with (first | (at_builtin; refine append_bytes rfl (.tmp 17) (.tmp 18) rfl A.out.1 [0] _ 1 rfl (by decide) rfl rfl rfl (by have := HB1.out; rw [List.length_append]; omega) ?_; intro s1 u1 h1 k1; have H1 := (show Hid _ from And.intro h1 (A.out.2.trans k1)); clear h1 k1))
      go_ret
      refine ⟨s1, rfl, ?_, H1.out.2⟩
      have := H1.out.1
      rw [HT.out] at this
      simpa [List.append_assoc] using this

set_option maxRecDepth 100000 in
set_option maxHeartbeats 4000000 in
theorem putFields_any (n : Nat) (w0 : World) (xs : List Fl) (ih : xs ≠ [] → PutAt n) (sl : Value) (hrow : RowAt (fun _ => True) w0 72 6 sl xs.length (encFs xs)) (hl : ∀ e ∈ xs, Lies n w0 e.v e.l e.f) (hf : ∀ e ∈ xs, e.name.size ≤ 1000000 ∧ KFit n e.v)
    (s : Value) (out : List UInt8) (w : World) (h : Ow w0 s out w) (vs : List (ByteArray × V)) (hvs : vs = xs.map Fl.pair) (hlen : out.length + (vs.flatMap (fieldL (putV (n + 1))) ++ [0]).length ≤ 1000000000) :
    Calls Tryz.prog 104 #[s, sl] w (Wrote w0 s w out (vs.flatMap (fieldL (putV (n + 1))) ++ [0])) := by
  obtain ⟨aa, ca, rfl⟩ := hrow.slice
  have na := hrow.2.1
  rw [List.length_append] at hlen
  have HH := (show Hid _ from And.intro hrow (And.intro hl (And.intro hf (And.intro hvs (And.intro hlen h)))))
  have hI := (show Hid _ from And.intro ih ih)
  clear hrow hl hf hvs hlen ih h
  go_enter Tryz.func104, Tryz.ntmps104
  go_wp2_with fail
  go_loopg [0, 6, 9] xs.length (fun gg s0 _ i wr => ∃ k : Nat, k ≤ xs.length ∧ xs.length - k ≤ gg ∧ i = .int .i64 k ∧ Aside (Ow w0 s0 (out ++ (vs.take k).flatMap (fieldL (putV (n + 1)))) wr ∧ Kp s w s0 wr))
  case atStart => exact ⟨0, Nat.zero_le _, by omega, rfl, by simpa using HH.out.2.2.2.2.2, Kp.refl _ _⟩
  case round =>
    obtain ⟨k, hk, hgg, rfl, A⟩ := hrel
    by_cases hlt : k < xs.length
    · obtain ⟨hrow, hl, hf, hvs, hlen, h⟩ := HH.out
      obtain ⟨b0, c', e1, hb0, _, hc1, hc2, _⟩ := hrow.cells (by omega)
      simp only [Value.slice.injEq, true_and] at e1
      obtain ⟨rfl, rfl⟩ := e1
      obtain ⟨⟨xn, xv, xl, xf⟩, hx⟩ : ∃ x, xs[k]? = some x := ⟨_, List.getElem?_eq_getElem hlt⟩
      have OA := A.out.1
      obtain ⟨a0, a1, a2, a3, a4, a5⟩ := (hrow.move fun c _ hl => ⟨trivial, OA.below.block c hl⟩).fl hx
      have hlx : Lies n w0 xv xl xf := hl _ (List.mem_of_getElem? hx)
      obtain ⟨hnx, hfx⟩ := hf _ (List.mem_of_getElem? hx)
      simp only at a0 a1 a2 a3 a4 a5 hnx hfx
      obtain ⟨al, cl, af, cf, rfl, rfl⟩ := hlx.slices
      have hvk : vs[k]? = some (xn, xv) := by rw [hvs, List.getElem?_map, hx]; rfl
      have hst := flat_take (fieldL (putV (n + 1))) hvk
      have hsl := flat_take_len (fieldL (putV (n + 1))) vs (k + 1)
      rw [hst, List.length_append] at hsl
      have hfl : (fieldL (putV (n + 1)) (xn, xv)).length = 1 + (writtenL xn.data.toList).length + (putV (n + 1) xv).length := by
        unfold fieldL
        simp only [List.length_cons, List.length_append]
        omega
      have hbd : out.length + ((vs.take k).flatMap (fieldL (putV (n + 1)))).length + (1 + (writtenL xn.data.toList).length + (putV (n + 1) xv).length) ≤ 1000000000 := by
        simp only [List.length_cons, List.length_nil] at hlen
        omega
      obtain ⟨O, hO⟩ : ∃ O, O = Obj.cells #[.string xn, .int .i64 xv.kind, .int .i64 xv.num, .string xv.text, .slice al xv.list.length cl, .slice af xv.fields.length cf] 72 := ⟨_, rfl⟩
      have hBa : Below wr.heap.size wr (wr.alloc O) := (Below.refl _ _).alloc (Nat.le_refl _) _
      have OB := OA.same hBa
      have hrO : (wr.alloc O).heap[wr.heap.size]? = some O := heap_alloc_new wr O
      have hne : ∀ q : Value, q.ownBlock = u0.ownBlock → q.ownBlock ≠ some wr.heap.size := fun q hq e => by
        have := (OA.own.lt _ (hq.symm.trans e)).2
        omega
      rw [hO] at OB hrO
      have zk : (k : Int) < (xs.length : Int) := by omega
      have hb0r : b0 < wr.heap.size := lt_of_cell a0
      have HOB := (show Hid _ from OB)
      have HR := (show Hid _ from And.intro hrO (hne u0 rfl))
      have HB1 := (show Hid _ from hbd)
      have H2 := (show Hid _ from And.intro hst (And.intro hO (And.intro hBa (And.intro hlx (And.intro hfx hnx)))))
      clear hrow hl hf hvs hlen h OA hlx hfx hvk hst hsl hO hBa hx hbd hfl OB hrO hne hnx
      go_wp2_with (first | (at_builtin; refine append_bytes2 rfl (.tmp 13) (.tmp 14) rfl HOB.out [1] _ 1 rfl (by decide) rfl rfl _ rfl (by simp) (by have := HB1.out; rw [List.length_append]; omega) ?_; intro s1 u1 h1 k1; have r1 := k1.row HR.out.1 HR.out.2; obtain ⟨p0, p1, p2, p3, p4, p5, pf⟩ := row6 r1; have hl1 := lt_of_heap r1; have H1 := (show Hid _ from And.intro h1 (And.intro k1 r1)); clear h1 k1 r1))
      refine (putText_any xn w0 u1 s1 _ H1.out.1 H2.out.2.2.2.2.2 (by have := HB1.out; rw [List.length_append, List.length_append]; simp only [List.length_cons, List.length_nil]; omega)).mono ?_
      rintro e u2 ⟨s2, rfl, h2, k2⟩
      obtain ⟨h1, k1, r1⟩ := H1.out
      have hne2 : ∀ {q : Value} {u : World}, Kp u0 (wr.alloc (.cells #[.string xn, .int .i64 xv.kind, .int .i64 xv.num, .string xv.text, .slice al xv.list.length cl, .slice af xv.fields.length cf] 72)) q u → q.ownBlock ≠ some wr.heap.size := by
        intro q u hq e
        rcases hq.own with e2 | ⟨g, e2, hg⟩
        · exact HR.out.2 (e2.symm.trans e)
        · rw [e2] at e
          have := Option.some.inj e
          simp at hg
          omega
      have k12 := k1.trans k2
      have r2 := k2.row r1 (hne2 k1)
      obtain ⟨q0, q1, q2, q3, q4, q5, qf⟩ := row6 r2
      have hl2 := lt_of_heap r2
      obtain ⟨hst, hO, hBa, hlx, hfx, hnx⟩ := H2.out
      have hcall := hI.out.1 (fun e => by rw [e] at hlt; exact absurd hlt (Nat.not_lt_zero _)) w0 xv _ _ hlx hfx _ _ u2 h2 (by have := HB1.out; rw [List.length_append, List.length_append, List.length_append]; simp only [List.length_cons, List.length_nil]; omega)
      have H3 := (show Hid _ from k12)
      clear p0 p1 p2 p3 p4 p5 pf h1 k1 r1 k12 k2 r2 hst hO hBa hlx hfx hnx h2 hne2
      go_wp2_with fail
      refine hcall.mono ?_
      rintro e u3 ⟨s3, rfl, h3, k3⟩
      have k13 := H3.out.trans k3
      rw [← H2.out.2.1] at k13
      have k4 := (A.out.2.trans (Kp.of_below H2.out.2.2.1)).trans k13
      have H4 := (show Hid _ from And.intro h3 k4)
      clear hcall h3 k3 k13 k4
      go_wp2_with fail
      go_roundg (xs.length - (k + 1))
      case measure => omega
      case rel =>
        refine ⟨k + 1, by omega, by omega, by go_num, ?_, H4.out.2⟩
        rw [H2.out.1]
        have := H4.out.1
        unfold fieldL at this ⊢
        simpa [List.append_assoc] using this
    · have zk : ¬ (k : Int) < (xs.length : Int) := by omega
      have HT : Hid (vs.take k = vs) := List.take_of_length_le (by rw [HH.out.2.2.2.1]; simp; omega)
      have HB1 : Hid (out.length + ((vs.take k).flatMap (fieldL (putV (n + 1)))).length + 1 ≤ 1000000000) := by
        have := HH.out.2.2.2.2.1
        simp only [List.length_cons, List.length_nil] at this
        rw [HT.out]
        show _ ≤ _
        omega
      go_wp2_with (first | (at_builtin; refine append_bytes rfl (.tmp 25) (.tmp 26) rfl A.out.1 [0] _ 1 rfl (by decide) rfl rfl rfl (by have := HB1.out; rw [List.length_append]; omega) ?_; intro s1 u1 h1 k1; have H1 := (show Hid _ from And.intro h1 (A.out.2.trans k1)); clear h1 k1))
      go_ret
      refine ⟨s1, rfl, ?_, H1.out.2⟩
      have := H1.out.1
      rw [HT.out] at this
      simpa [List.append_assoc] using this

theorem own_string {w0 w : World} {s : Value} {l : List UInt8} (h : Ow w0 s l w) : (convert 24 9 s).run Tryz.prog w = .ok (.string ⟨l.toArray⟩) w := by
  rcases h.own.2 with ⟨rfl, h0⟩ | ⟨g, cap, cur, rfl, _⟩
  · obtain rfl := List.eq_nil_of_length_eq_zero h0
    rw [run_convert_bytes_string w 24 9 5 none 0 0 Tryz.underlying24 Tryz.underlying5 Tryz.underlying9]
    simp [Conv.bytesToString]
    rfl
  · refine run_convert_bytes_back w 24 9 5 ⟨g, 0, none⟩ cap l Tryz.underlying24 Tryz.underlying5 Tryz.underlying9 fun j hj => ?_
    refine h.own.cells (g := g) rfl j _ ?_
    unfold cellsB
    rw [List.getElem?_map, List.getElem?_eq_getElem hj]
    rfl

set_option maxRecDepth 100000 in
set_option maxHeartbeats 4000000 in
theorem put_step (kd num : Int) (text : ByteArray) (a1 : Option Addr) (n1 c1 : Nat) (a2 : Option Addr) (n2 c2 : Nat) (w0 w : World) (s : Value) (out : List UInt8) (h : Ow w0 s out w) (tl : List UInt8) (h0 : 0 ≤ kd) (h5 : kd ≤ 5) (hlen : out.length + 1 + tl.length ≤ 1000000000)
    (t0 : kd = 0 → tl = []) (t1 : kd = 1 → (num = 0 ∨ num = 1) ∧ tl = [UInt8.ofNat num.toNat])
    (t2 : kd = 2 → ∀ s1 l1 w1, Ow w0 s1 l1 w1 → l1.length + tl.length ≤ 1000000000 → Calls Tryz.prog 101 #[s1, .int .i64 num] w1 (Wrote w0 s1 w1 l1 tl))
    (t3 : kd = 3 → ∀ s1 l1 w1, Ow w0 s1 l1 w1 → l1.length + tl.length ≤ 1000000000 → Calls Tryz.prog 102 #[s1, .string text] w1 (Wrote w0 s1 w1 l1 tl))
    (t4 : kd = 4 → ∀ s1 l1 w1, Ow w0 s1 l1 w1 → l1.length + tl.length ≤ 1000000000 → Calls Tryz.prog 103 #[s1, .slice a1 n1 c1] w1 (Wrote w0 s1 w1 l1 tl))
    (t5 : kd = 5 → ∀ s1 l1 w1, Ow w0 s1 l1 w1 → l1.length + tl.length ≤ 1000000000 → Calls Tryz.prog 104 #[s1, .slice a2 n2 c2] w1 (Wrote w0 s1 w1 l1 tl)) :
    Calls Tryz.prog 82 #[s, .agg #[.int .i64 kd, .int .i64 num, .string text, .slice a1 n1 c1, .slice a2 n2 c2]] w (Wrote w0 s w out (UInt8.ofNat (kd.toNat + 1) :: tl)) := by
  obtain ⟨O, hO⟩ : ∃ O, O = Obj.cells #[.int .i64 kd, .int .i64 num, .string text, .slice a1 n1 c1, .slice a2 n2 c2] 40 := ⟨_, rfl⟩
  have hBa : Below w.heap.size w (w.alloc O) := (Below.refl _ _).alloc (Nat.le_refl _) _
  have OB := h.same hBa
  have hrO : (w.alloc O).heap[w.heap.size]? = some O := heap_alloc_new w O
  have hne : s.ownBlock ≠ some w.heap.size := fun e => by
    have := (h.own.lt _ e).2
    omega
  have KB : Kp s w s (w.alloc O) := Kp.of_below hBa
  rw [hO] at OB hrO KB
  have HA := (show Hid _ from OB)
  have HR := (show Hid _ from And.intro hrO hne)
  have HK := (show Hid _ from KB)
  have HB := (show Hid _ from hlen)
  have HT := (show Hid _ from And.intro t0 (And.intro t1 (And.intro t2 (And.intro t3 (And.intro t4 t5)))))
  clear hO hBa OB hrO hne KB h hlen t0 t1 t2 t3 t4 t5
  obtain rfl | rfl | rfl | rfl | rfl | rfl : kd = 0 ∨ kd = 1 ∨ kd = 2 ∨ kd = 3 ∨ kd = 4 ∨ kd = 5 := by omega
  · have et := HT.out.1 rfl
    subst et
    clear HT
    go_enter Tryz.func82, Tryz.ntmps82
    go_wp2_with (first | (at_builtin; refine append_bytes2 rfl (.tmp 5) (.tmp 10) rfl HA.out [1] _ 1 rfl (by decide) rfl rfl _ rfl (by simp) (by have := HB.out; omega) ?_; intro s1 u1 h1 k1; have r1 := k1.row HR.out.1 HR.out.2; obtain ⟨p0, p1, p2, p3, p4, pf⟩ := row5 r1; have hl1 := lt_of_heap r1; have H1 := (show Hid _ from And.intro h1 (HK.out.trans k1)); clear h1 k1 r1))
    go_ret
    exact ⟨s1, rfl, H1.out.1, H1.out.2⟩
  · obtain ⟨hn, et⟩ := HT.out.2.1 rfl
    subst et
    clear HT
    rcases hn with rfl | rfl
    · go_enter Tryz.func82, Tryz.ntmps82
      go_wp2_with (first | (at_builtin; refine append_bytes2 rfl (.tmp 5) (.tmp 10) rfl HA.out [2] _ 1 rfl (by decide) rfl rfl _ rfl (by simp) (by have := HB.out; omega) ?_; intro s1 u1 h1 k1; have r1 := k1.row HR.out.1 HR.out.2; obtain ⟨p0, p1, p2, p3, p4, pf⟩ := row5 r1; have hl1 := lt_of_heap r1; have H1 := (show Hid _ from And.intro h1 (HK.out.trans k1)); clear h1 k1 r1) | (at_builtin; refine append_bytes rfl (.tmp 16) (.tmp 20) rfl H1.out.1 [0] _ 1 rfl (by decide) rfl rfl rfl (by have := HB.out; rw [List.length_append]; simp only [List.length_cons, List.length_nil] at this ⊢; omega) ?_; intro s2 u2 h1 k1; have H2 := (show Hid _ from And.intro h1 (H1.out.2.trans k1)); clear h1 k1))
      go_ret
      exact ⟨s2, rfl, by simpa [List.append_assoc] using H2.out.1, H2.out.2⟩
    · go_enter Tryz.func82, Tryz.ntmps82
      go_wp2_with (first | (at_builtin; refine append_bytes2 rfl (.tmp 5) (.tmp 10) rfl HA.out [2] _ 1 rfl (by decide) rfl rfl _ rfl (by simp) (by have := HB.out; omega) ?_; intro s1 u1 h1 k1; have r1 := k1.row HR.out.1 HR.out.2; obtain ⟨p0, p1, p2, p3, p4, pf⟩ := row5 r1; have hl1 := lt_of_heap r1; have H1 := (show Hid _ from And.intro h1 (HK.out.trans k1)); clear h1 k1 r1) | (at_builtin; refine append_bytes rfl (.tmp 16) (.tmp 20) rfl H1.out.1 [1] _ 1 rfl (by decide) rfl rfl rfl (by have := HB.out; rw [List.length_append]; simp only [List.length_cons, List.length_nil] at this ⊢; omega) ?_; intro s2 u2 h1 k1; have H2 := (show Hid _ from And.intro h1 (H1.out.2.trans k1)); clear h1 k1))
      go_ret
      exact ⟨s2, rfl, by simpa [List.append_assoc] using H2.out.1, H2.out.2⟩
  · have HC := (show Hid _ from HT.out.2.2.1 rfl)
    clear HT
    go_enter Tryz.func82, Tryz.ntmps82
    go_wp2_with (first | (at_builtin; refine append_bytes2 rfl (.tmp 5) (.tmp 10) rfl HA.out [3] _ 1 rfl (by decide) rfl rfl _ rfl (by simp) (by have := HB.out; omega) ?_; intro s1 u1 h1 k1; have r1 := k1.row HR.out.1 HR.out.2; obtain ⟨p0, p1, p2, p3, p4, pf⟩ := row5 r1; have hl1 := lt_of_heap r1; have H1 := (show Hid _ from And.intro h1 (HK.out.trans k1)); clear h1 k1 r1))
    refine (HC.out s1 _ u1 H1.out.1 (by have := HB.out; rw [List.length_append]; simp only [List.length_cons, List.length_nil]; omega)).mono ?_
    rintro e u2 ⟨s2, rfl, h2, k2⟩
    have H2 := (show Hid _ from And.intro h2 (H1.out.2.trans k2))
    clear h2 k2
    go_wp2_with fail
    go_ret
    exact ⟨s2, rfl, by simpa [List.append_assoc] using H2.out.1, H2.out.2⟩
  · have HC := (show Hid _ from HT.out.2.2.2.1 rfl)
    clear HT
    go_enter Tryz.func82, Tryz.ntmps82
    go_wp2_with (first | (at_builtin; refine append_bytes2 rfl (.tmp 5) (.tmp 10) rfl HA.out [4] _ 1 rfl (by decide) rfl rfl _ rfl (by simp) (by have := HB.out; omega) ?_; intro s1 u1 h1 k1; have r1 := k1.row HR.out.1 HR.out.2; obtain ⟨p0, p1, p2, p3, p4, pf⟩ := row5 r1; have hl1 := lt_of_heap r1; have H1 := (show Hid _ from And.intro h1 (HK.out.trans k1)); clear h1 k1 r1))
    refine (HC.out s1 _ u1 H1.out.1 (by have := HB.out; rw [List.length_append]; simp only [List.length_cons, List.length_nil]; omega)).mono ?_
    rintro e u2 ⟨s2, rfl, h2, k2⟩
    have H2 := (show Hid _ from And.intro h2 (H1.out.2.trans k2))
    clear h2 k2
    go_wp2_with fail
    go_ret
    exact ⟨s2, rfl, by simpa [List.append_assoc] using H2.out.1, H2.out.2⟩
  · have HC := (show Hid _ from HT.out.2.2.2.2.1 rfl)
    clear HT
    go_enter Tryz.func82, Tryz.ntmps82
    go_wp2_with (first | (at_builtin; refine append_bytes2 rfl (.tmp 5) (.tmp 10) rfl HA.out [5] _ 1 rfl (by decide) rfl rfl _ rfl (by simp) (by have := HB.out; omega) ?_; intro s1 u1 h1 k1; have r1 := k1.row HR.out.1 HR.out.2; obtain ⟨p0, p1, p2, p3, p4, pf⟩ := row5 r1; have hl1 := lt_of_heap r1; have H1 := (show Hid _ from And.intro h1 (HK.out.trans k1)); clear h1 k1 r1))
    refine (HC.out s1 _ u1 H1.out.1 (by have := HB.out; rw [List.length_append]; simp only [List.length_cons, List.length_nil]; omega)).mono ?_
    rintro e u2 ⟨s2, rfl, h2, k2⟩
    have H2 := (show Hid _ from And.intro h2 (H1.out.2.trans k2))
    clear h2 k2
    go_wp2_with fail
    go_ret
    exact ⟨s2, rfl, by simpa [List.append_assoc] using H2.out.1, H2.out.2⟩
  · have HC := (show Hid _ from HT.out.2.2.2.2.2 rfl)
    clear HT
    go_enter Tryz.func82, Tryz.ntmps82
    go_wp2_with (first | (at_builtin; refine append_bytes2 rfl (.tmp 5) (.tmp 10) rfl HA.out [6] _ 1 rfl (by decide) rfl rfl _ rfl (by simp) (by have := HB.out; omega) ?_; intro s1 u1 h1 k1; have r1 := k1.row HR.out.1 HR.out.2; obtain ⟨p0, p1, p2, p3, p4, pf⟩ := row5 r1; have hl1 := lt_of_heap r1; have H1 := (show Hid _ from And.intro h1 (HK.out.trans k1)); clear h1 k1 r1))
    refine (HC.out s1 _ u1 H1.out.1 (by have := HB.out; rw [List.length_append]; simp only [List.length_cons, List.length_nil]; omega)).mono ?_
    rintro e u2 ⟨s2, rfl, h2, k2⟩
    have H2 := (show Hid _ from And.intro h2 (H1.out.2.trans k2))
    clear h2 k2
    go_wp2_with fail
    go_ret
    exact ⟨s2, rfl, by simpa [List.append_assoc] using H2.out.1, H2.out.2⟩

theorem putV_step (n : Nat) (v : V) : putV (n + 1) v = UInt8.ofNat (v.kind.toNat + 1) :: tailV (putV n) v := rfl
theorem put_any : ∀ n, PutAt n
  | 0 => by
    rintro w0 ⟨kd, num, text, ls, fs⟩ l f ⟨h1, h2, rfl, rfl⟩ hf s out w h hlen
    obtain ⟨k0, k5, kn, kb, kt⟩ := hf.here
    simp only at h1 h2 k0 k5 kn kb kt ⊢
    subst h1 h2
    rw [putV_step] at hlen ⊢
    simp only [List.length_cons] at hlen
    refine put_step kd num text _ _ _ _ _ _ w0 w s out h _ k0 k5 (by omega) (fun e => ?_) (fun e => ⟨kb e, ?_⟩) (fun e s1 l1 w1 o1 z1 => ?_) (fun e s1 l1 w1 o1 z1 => ?_) (fun e s1 l1 w1 o1 z1 => ?_) (fun e s1 l1 w1 o1 z1 => ?_)
    all_goals subst e
    · rfl
    · rfl
    · exact putInt_any num kn w0 w1 s1 l1 o1 z1
    · exact putText_any text w0 w1 s1 l1 o1 kt z1
    · exact putList_any 0 w0 [] (fun e => absurd rfl e) (.slice none 0 0) RowAt.nil (fun e he => by cases he) (fun e he => by cases he) s1 l1 w1 o1 [] rfl z1
    · exact putFields_any 0 w0 [] (fun e => absurd rfl e) (.slice none 0 0) RowAt.nil (fun e he => by cases he) (fun e he => by cases he) s1 l1 w1 o1 [] rfl z1
  | n + 1 => by
    rintro w0 ⟨kd, num, text, ls, gs⟩ l f hl hf s out w h hlen
    obtain ⟨⟨es, e1, e2, e3⟩, ⟨fs, f1, f2, f3⟩⟩ := id hl
    obtain ⟨k0, k5, kn, kb, kt⟩ := hf.here
    obtain ⟨_, hf1, hf2⟩ := hf
    obtain ⟨al, cl, af, cf, rfl, rfl⟩ := hl.slices
    simp only at e1 e2 f1 f2 k0 k5 kn kb kt hf1 hf2 ⊢
    rw [putV_step] at hlen ⊢
    simp only [List.length_cons] at hlen
    refine put_step kd num text _ _ _ _ _ _ w0 w s out h _ k0 k5 (by omega) (fun e => ?_) (fun e => ⟨kb e, ?_⟩) (fun e s1 l1 w1 o1 z1 => ?_) (fun e s1 l1 w1 o1 z1 => ?_) (fun e s1 l1 w1 o1 z1 => ?_) (fun e s1 l1 w1 o1 z1 => ?_)
    all_goals subst e
    · rfl
    · rfl
    · exact putInt_any num kn w0 w1 s1 l1 o1 z1
    · exact putText_any text w0 w1 s1 l1 o1 kt z1
    · exact putList_any n w0 es (fun _ => put_any n) _ e2 e3 (fun e he => hf1 _ (by rw [← e1]; exact List.mem_map_of_mem he)) s1 l1 w1 o1 ls e1.symm z1
    · exact putFields_any n w0 fs (fun _ => put_any n) _ f2 f3 (fun e he => hf2 e.pair (by rw [← f1]; exact List.mem_map_of_mem he)) s1 l1 w1 o1 gs f1.symm z1

set_option maxHeartbeats 1000000 in
theorem KPut_any (n : Nat) (v : V) (l f : Value) (w : World) (hl : Lies n w v l f) (hf : KFit n v) (hlen : (putV (n + 1) v).length ≤ 1000000000) {P : ByteArray} (hP : (⟨(putV (n + 1) v).toArray⟩ : ByteArray) = P) :
    Calls Tryz.prog 59 #[.agg #[.int .i64 v.kind, .int .i64 v.num, .string v.text, l, f]] w fun e w' => e = .returned (.string P) ∧ Below w.heap.size w w' := by
  obtain ⟨al, cl, af, cf, rfl, rfl⟩ := hl.slices
  obtain ⟨O, hO⟩ : ∃ O, O = Obj.cells #[.int .i64 v.kind, .int .i64 v.num, .string v.text, .slice al v.list.length cl, .slice af v.fields.length cf] 40 := ⟨_, rfl⟩
  have hBa : Below w.heap.size w (w.alloc O) := (Below.refl _ _).alloc (Nat.le_refl _) _
  have hcall := put_any n w v _ _ hl hf (.slice none 0 0) [] (w.alloc O) (Ow.nil hBa) (by simpa using hlen)
  rw [hO] at hcall
  have HP := (show Hid _ from hP)
  clear hO hBa hl hf hlen hP
  go_enter Tryz.func59, Tryz.ntmps59
  go_wp2_with fail
  refine hcall.mono ?_
  rintro e w1 ⟨s1, rfl, h1, k1⟩
  have hs := own_string h1
  rw [List.nil_append, HP.out] at hs
  have H1 := (show Hid _ from h1.below)
  clear hcall h1 k1
  go_wp2_with fail
  go_ret
  exact ⟨rfl, H1.out⟩
end Go.Proofs.YtfpkkobclkdniaaGreatDoor

namespace Go.Proofs.YtfpkkobclkdniaaGreatDoor
open Go.RowKit

theorem mixed : Tryz.prog.follows .mixedOrders = true := by kernel_rfl
theorem below_regrown_cell {w : World} {b o : Nat} {v : Value} (h : w.cell? ⟨b, o, none⟩ = some v) (d : Nat) (os : Array Obj) : (Go.Sort.grow (redrawn w d) os).cell? ⟨b, o, none⟩ = some v := cell_regrown h d os

theorem cmpI_range (a b : Int) : -1 ≤ cmpI a b ∧ cmpI a b ≤ 1 := by unfold cmpI; repeat' split <;> omega
theorem cmpL_range {α : Type} {f : α → α → Int} (h : ∀ a b, -1 ≤ f a b ∧ f a b ≤ 1) : ∀ a b, -1 ≤ cmpL f a b ∧ cmpL f a b ≤ 1
  | [], [] => by simp [cmpL]
  | [], _ :: _ => by simp [cmpL]
  | _ :: _, [] => by simp [cmpL]
  | x :: xs, y :: ys => by
    simp only [cmpL]
    split
    · exact cmpL_range h xs ys
    · exact h x y
theorem cmpV_range : ∀ (n : Nat) (a b : V), -1 ≤ cmpV n a b ∧ cmpV n a b ≤ 1
  | 0, _, _ => by simp [cmpV]
  | n + 1, a, b => by
    have hT : ∀ p q, -1 ≤ cmpT p q ∧ cmpT p q ≤ 1 := fun p q => by have := cmpB_range p.toList q.toList; unfold cmpT; omega
    simp only [cmpV]
    split
    · split
      · exact cmpI_range _ _
      · split
        · exact hT _ _
        · split
          · exact cmpL_range (cmpV_range n) _ _
          · split
            · refine cmpL_range (fun p q => ?_) _ _
              unfold cmpF
              split
              · exact cmpV_range n _ _
              · exact hT _ _
            · omega
    · exact cmpI_range _ _

end Go.Proofs.YtfpkkobclkdniaaGreatDoor
