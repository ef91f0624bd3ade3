/-
  The program's writer of keys: bytes behind bytes. Conditions: as stated.
-/
import Derived.Test.YtehjdamdlokoaaaDoorKPure
import Derived.Test.YtehjdamdlokoaaaDoorVMade3
import Derived.Deep.AppendLies
import Derived.Laws.Bits64
import Derived.Laws.IdiomStrings
namespace Go.Proofs.YtehjdamdlokoaaaDoor
open Go.RowKit

def cellsB (l : List UInt8) : List Value := l.map fun u => Value.int .u8 (u.toNat : Int)
/-- a row of bytes that is the call's own, made behind w0. -/
structure Ow (w0 : World) (s : Value) (l : List UInt8) (w : World) : Prop where
  below : Below w0.heap.size w0 w
  own : w.ownsRow w0.heap.size 5 1 s l.length (cellsB l)
/-- what writing leaves as it was. -/
structure Kp (s : Value) (w : World) (s' : Value) (w' : World) : Prop where
  size : w.heap.size ≤ w'.heap.size
  block : ∀ k, k < w.heap.size → s.ownBlock ≠ some k → w'.heap[k]? = w.heap[k]?
  own : s'.ownBlock = s.ownBlock ∨ ∃ g, s'.ownBlock = some g ∧ w.heap.size ≤ g
theorem Kp.refl (s : Value) (w : World) : Kp s w s w := ⟨Nat.le_refl _, fun _ _ _ => rfl, .inl rfl⟩
theorem Kp.trans {s s1 s2 : Value} {w w1 w2 : World} (h : Kp s w s1 w1) (k : Kp s1 w1 s2 w2) : Kp s w s2 w2 := by
  refine ⟨Nat.le_trans h.size k.size, fun i hi hs => ?_, ?_⟩
  · refine (k.block i (Nat.lt_of_lt_of_le hi h.size) ?_).trans (h.block i hi hs)
    rcases h.own with e | ⟨g, e, hg⟩
    · rw [e]; exact hs
    · rw [e]; intro e2; have := Option.some.inj e2; omega
  · rcases k.own with e | ⟨g, e, hg⟩
    · rcases h.own with e2 | ⟨g, e2, hg⟩
      · exact .inl (e.trans e2)
      · exact .inr ⟨g, e.trans e2, hg⟩
    · exact .inr ⟨g, e, Nat.le_trans h.size hg⟩
theorem Kp.of_below {s : Value} {w w' : World} (h : Below w.heap.size w w') : Kp s w s w' := ⟨h.size, fun k hk _ => h.block k hk, .inl rfl⟩
theorem Ow.same {w0 w w' : World} {s : Value} {l : List UInt8} (h : Ow w0 s l w) (hb : Below w.heap.size w w') : Ow w0 s l w' :=
  ⟨h.below.trans (hb.mono h.below.size), ownsRow_move (fun b hb' hl => ⟨(h.own.lt b hb').1, hb.block b hl⟩) h.own⟩
theorem Ow.nil {w0 w : World} (h : Below w0.heap.size w0 w) : Ow w0 (.slice none 0 0) [] w := ⟨h, World.ownsRow_nil _ _ _ _⟩
theorem Kp.row {s s' : Value} {w w' : World} {b : Nat} {o : Obj} (h : Kp s w s' w') (hb : w.heap[b]? = some o) (hne : s.ownBlock ≠ some b) : w'.heap[b]? = some o := (h.block b (lt_of_heap hb) hne).trans hb
theorem cellsB_append (l m : List UInt8) : cellsB (l ++ m) = cellsB l ++ cellsB m := by simp [cellsB]
theorem infoU8 : (Tryd.prog.info? 5).map (fun i => (i.zero, i.size, i.bytes)) = some (some (.int .u8 0), 1, 1) := by kernel_rfl

/-- bytes that were laid are appended. -/
theorem append_bytes {ops : Array Oper} {rest : List Oper} {o : Oper} {a : Act} {Q : Exit → Act → World → Prop} (hgd : o.guard = none) (s x : Operand)
    (ho : o.op = .call { callee := .builtin .append, args := #[s, x], argTypes := #[22, 22] })
    {w0 w : World} {sv : Value} {l : List UInt8} (h : Ow w0 sv l w) (cs : List UInt8) (arr : Array Value) (n : Nat) (hn : cs.length = n) (h0 : 0 < n) (harr : arr.toList = cellsB cs) (hs : a.eval s = sv) (hx : a.eval x = .slice (some ⟨w.heap.size, 0, none⟩) n n) (hl : l.length + n ≤ 1000000000)
    (k : ∀ sv' w', Ow w0 sv' (l ++ cs) w' → Kp sv w sv' w' → wpList Tryd.prog ops Q rest (a.put o.dst sv') w') : wpList Tryd.prog ops Q (o :: rest) a (w.alloc (.cells arr 5)) := by
  obtain ⟨i0, hi, hz0, hz1, hz2⟩ := info_parts infoU8
  have hB : Below w.heap.size w (w.alloc (.cells arr 5)) := (Below.refl _ _).alloc (Nat.le_refl _) _
  have h1 := h.same hB
  have hnews : ∀ j u, (cellsB cs)[j]? = some u → (w.alloc (.cells arr 5)).cell? ((⟨w.heap.size, 0, none⟩ : Addr).add j) = some u := by
    have hh : (w.alloc (.cells arr 5)).heap[w.heap.size]? = some (.cells arr 5) := heap_alloc_new w _
    rw [← harr]
    exact World.news_of_block hh
  have hone : ∀ v ∈ cellsB cs, v.oneCell' = true := by
    intro v hv
    obtain ⟨y, _, rfl⟩ := List.mem_map.1 hv
    rfl
  refine wpList_append_lies _ hgd s x 22 ho w0.heap.size 5 i0 _ 1 1 Tryd.underlying22 hi hz0 hz1 hz2 rfl (by decide) sv l.length (cellsB l) hs h1.own ⟨w.heap.size, 0, none⟩ n n (cellsB cs) hx (by simp [cellsB, hn]) hnews hone h0 (by unfold maxLen; omega) (by omega) h1.below.size _ rfl ?_
  intro g cap w3 hown3 hgrow3 hlie hlt3
  refine k _ w3 ⟨h1.below.grown hgrow3 h1.below.size (fun k e => (h.own.lt k e).1), ?_⟩ ⟨?_, ?_, ?_⟩
  · rw [cellsB_append, List.length_append, hn]; exact hown3
  · exact Nat.le_trans hB.size hgrow3.size
  · intro k hk hne
    exact (hgrow3.block k (Nat.lt_of_lt_of_le hk hB.size) (fun e => hne e.symm)).trans (hB.block k hk)
  · rcases hlie with e | e
    · exact .inl e.symm
    · exact .inr ⟨g, rfl, by rw [e]; simp⟩


/-- a call that writes behind a row. -/
def Wrote (w0 : World) (s : Value) (w : World) (l more : List UInt8) (e : Ending) (w' : World) : Prop := ∃ s', e = .returned s' ∧ Ow w0 s' (l ++ more) w' ∧ Kp s w s' w'

def tw (n : Int) : Int := if n < 0 then n + 9223372036854775808 else n - 9223372036854775808
theorem nat_xor_top (a : Nat) (h : a < 18446744073709551616) : a ^^^ 9223372036854775808 = if a < 9223372036854775808 then a + 9223372036854775808 else a - 9223372036854775808 := by
  have d : (a ^^^ 2 ^ 63) / 2 ^ 63 = a / 2 ^ 63 ^^^ 2 ^ 63 / 2 ^ 63 := Nat.xor_div_two_pow
  have m : (a ^^^ 2 ^ 63) % 2 ^ 63 = (a % 2 ^ 63) ^^^ (2 ^ 63 % 2 ^ 63) := Nat.xor_mod_two_pow
  rw [show (2 : Nat) ^ 63 = 9223372036854775808 from rfl] at d m
  rw [Nat.mod_self, Nat.xor_zero] at m
  rw [Nat.div_self (by decide)] at d
  have hq : a / 9223372036854775808 = 0 ∨ a / 9223372036854775808 = 1 := by omega
  rcases hq with hq | hq
  · rw [hq, show (0 ^^^ 1 : Nat) = 1 from rfl] at d
    rw [if_pos (by omega)]
    omega
  · rw [hq, show (1 ^^^ 1 : Nat) = 0 from rfl] at d
    rw [if_neg (by omega)]
    omega
theorem wrap_i64 (n : Int) : IntKind.i64.wrap n = if n % 18446744073709551616 ≥ 9223372036854775808 then n % 18446744073709551616 - 18446744073709551616 else n % 18446744073709551616 := by
  simp [IntKind.wrap, IntKind.bits, IntKind.signed]
theorem xor_top (n : Int) (h : I64 n) : bits .xor .i64 n (-9223372036854775808) = tw n := by
  obtain ⟨h1, h2⟩ := h
  show IntKind.i64.wrap ((BitVec.ofInt 64 n ^^^ BitVec.ofInt 64 (-9223372036854775808)).toNat : Int) = _
  have e1 : (BitVec.ofInt 64 (-9223372036854775808)).toNat = 9223372036854775808 := by decide
  have e2 : (((BitVec.ofInt 64 n).toNat : Nat) : Int) = n % 18446744073709551616 := by
    rw [BitVec.toNat_ofInt]
    show ((n % ((2 ^ 64 : Nat) : Int)).toNat : Int) = _
    rw [show ((2 ^ 64 : Nat) : Int) = 18446744073709551616 from rfl]
    omega
  have e3 : (BitVec.ofInt 64 n).toNat < 18446744073709551616 := (BitVec.ofInt 64 n).isLt
  rw [BitVec.toNat_xor, e1, nat_xor_top _ e3, wrap_i64]
  unfold tw
  split <;> split <;> omega
theorem wrap_tw (n : Int) (h : I64 n) : IntKind.u64.wrap (tw n) = (turnN n : Int) := by
  obtain ⟨h1, h2⟩ := h
  rw [IntKind.wrap_u64]
  unfold tw turnN
  split <;> omega
theorem tw_bounds (n : Int) (h : I64 n) : -9223372036854775808 ≤ tw n ∧ tw n ≤ 9223372036854775807 := by
  obtain ⟨h1, h2⟩ := h
  unfold tw
  split <;> omega

theorem turned_any (n : Int) (h : I64 n) (w : World) : Calls Tryd.prog 37 #[.int .i64 n] w fun e w' => e = .returned (.int .i64 (tw n)) ∧ w' = w := by
  have hx := xor_top n h
  clear h
  go_enter Tryd.func37, Tryd.ntmps37
  go_wp2
  go_ret
  exact ⟨rfl, rfl⟩

theorem byte_cell (U : Int) (m K : Nat) (hU : (m : Int) = U) : [Value.int .u8 (U / (K : Int) % 256)] = cellsB [UInt8.ofNat (m / K)] := by
  subst hU
  simp only [cellsB, List.map_cons, List.map_nil, UInt8.toNat_ofNat', List.cons.injEq, Value.int.injEq, true_and, and_true]
  omega
theorem byte_cell1 (U : Int) (m : Nat) (hU : (m : Int) = U) : [Value.int .u8 (U % 256)] = cellsB [UInt8.ofNat m] := by
  subst hU
  simp only [cellsB, List.map_cons, List.map_nil, UInt8.toNat_ofNat', List.cons.injEq, Value.int.injEq, true_and, and_true]
  omega

set_option maxRecDepth 100000 in
set_option maxHeartbeats 4000000 in
theorem putInt_any (n : Int) (hn : I64 n) (w0 w : World) (s : Value) (l : List UInt8) (h : Ow w0 s l w) (hl : l.length + 8 ≤ 1000000000) :
    Calls Tryd.prog 31 #[s, .int .i64 n] w (Wrote w0 s w l (intL n)) := by
  have hcall := turned_any n hn w
  obtain ⟨m, hm⟩ : ∃ m, m = turnN n := ⟨_, rfl⟩
  obtain ⟨U, hU⟩ : ∃ U : Int, (m : Int) = U := ⟨_, rfl⟩
  have hw : IntKind.u64.wrap (tw n) = U := by rw [wrap_tw n hn, ← hm, hU]
  obtain ⟨t, ht⟩ : ∃ t, t = tw n := ⟨_, rfl⟩
  rw [← ht] at hcall hw
  have HI : intL n = eight m := by rw [hm]; rfl
  have HU := (show Hid _ from hU)
  have HI := (show Hid _ from HI)
  have H0 := (show Hid _ from And.intro h (Kp.refl s w))
  have HL := (show Hid _ from hl)
  clear h hl hm hU ht hn
  go_enter Tryd.func31, Tryd.ntmps31
  go_wp2_with fail
  refine hcall.mono ?_
  rintro e w1 ⟨rfl, rfl⟩
  go_wp2_with fail
  refine wp_loop_rounds 9 ?_
  rw [rounds_succ]
  go_wp2_with (first | (at_builtin; refine append_bytes rfl (.tmp 14) (.tmp 20) rfl H0.out.1 [UInt8.ofNat (m / 72057594037927936)] _ 1 rfl (by decide) (byte_cell U m 72057594037927936 HU.out) rfl rfl (by have := HL.out; simp; omega) ?_; intro s1 u1 h1 k1; have H1 := (show Hid _ from And.intro h1 (H0.out.2.trans k1)); clear h1 k1))
  rw [rounds_succ]
  go_wp2_with (first | (at_builtin; refine append_bytes rfl (.tmp 14) (.tmp 20) rfl H1.out.1 [UInt8.ofNat (m / 281474976710656)] _ 1 rfl (by decide) (byte_cell U m 281474976710656 HU.out) rfl rfl (by have := HL.out; simp; omega) ?_; intro s2 u2 h1 k1; have H2 := (show Hid _ from And.intro h1 (H1.out.2.trans k1)); clear h1 k1))
  rw [rounds_succ]
  go_wp2_with (first | (at_builtin; refine append_bytes rfl (.tmp 14) (.tmp 20) rfl H2.out.1 [UInt8.ofNat (m / 1099511627776)] _ 1 rfl (by decide) (byte_cell U m 1099511627776 HU.out) rfl rfl (by have := HL.out; simp; omega) ?_; intro s3 u3 h1 k1; have H3 := (show Hid _ from And.intro h1 (H2.out.2.trans k1)); clear h1 k1))
  rw [rounds_succ]
  go_wp2_with (first | (at_builtin; refine append_bytes rfl (.tmp 14) (.tmp 20) rfl H3.out.1 [UInt8.ofNat (m / 4294967296)] _ 1 rfl (by decide) (byte_cell U m 4294967296 HU.out) rfl rfl (by have := HL.out; simp; omega) ?_; intro s4 u4 h1 k1; have H4 := (show Hid _ from And.intro h1 (H3.out.2.trans k1)); clear h1 k1))
  rw [rounds_succ]
  go_wp2_with (first | (at_builtin; refine append_bytes rfl (.tmp 14) (.tmp 20) rfl H4.out.1 [UInt8.ofNat (m / 16777216)] _ 1 rfl (by decide) (byte_cell U m 16777216 HU.out) rfl rfl (by have := HL.out; simp; omega) ?_; intro s5 u5 h1 k1; have H5 := (show Hid _ from And.intro h1 (H4.out.2.trans k1)); clear h1 k1))
  rw [rounds_succ]
  go_wp2_with (first | (at_builtin; refine append_bytes rfl (.tmp 14) (.tmp 20) rfl H5.out.1 [UInt8.ofNat (m / 65536)] _ 1 rfl (by decide) (byte_cell U m 65536 HU.out) rfl rfl (by have := HL.out; simp; omega) ?_; intro s6 u6 h1 k1; have H6 := (show Hid _ from And.intro h1 (H5.out.2.trans k1)); clear h1 k1))
  rw [rounds_succ]
  go_wp2_with (first | (at_builtin; refine append_bytes rfl (.tmp 14) (.tmp 20) rfl H6.out.1 [UInt8.ofNat (m / 256)] _ 1 rfl (by decide) (byte_cell U m 256 HU.out) rfl rfl (by have := HL.out; simp; omega) ?_; intro s7 u7 h1 k1; have H7 := (show Hid _ from And.intro h1 (H6.out.2.trans k1)); clear h1 k1))
  rw [rounds_succ]
  go_wp2_with (first | (at_builtin; refine append_bytes rfl (.tmp 14) (.tmp 20) rfl H7.out.1 [UInt8.ofNat m] _ 1 rfl (by decide) (byte_cell1 U m HU.out) rfl rfl (by have := HL.out; simp; omega) ?_; intro s8 u8 h1 k1; have H8 := (show Hid _ from And.intro h1 (H7.out.2.trans k1)); clear h1 k1))
  rw [rounds_succ]
  go_wp2_with fail
  go_ret
  refine ⟨s8, rfl, ?_, H8.out.2⟩
  rw [HI.out]
  simpa [eight] using H8.out.1

theorem kd_at {s : ByteArray} {k : Nat} (h : k < s.size) : ∃ x : UInt8, s[k]'h = x ∧ s.data.toList[k]? = some x := by
  have hl : k < s.data.toList.length := by simpa using h
  exact ⟨s[k]'h, rfl, by rw [List.getElem?_eq_getElem hl]; rfl⟩
theorem flat_take {α : Type} (f : α → List UInt8) {l : List α} {k : Nat} {x : α} (h : l[k]? = some x) : (l.take (k + 1)).flatMap f = (l.take k).flatMap f ++ f x := by
  rw [List.take_add_one, h]; simp
theorem flat_take_len {α : Type} (f : α → List UInt8) (l : List α) (k : Nat) : ((l.take k).flatMap f).length ≤ (l.flatMap f).length := by
  have : l.flatMap f = (l.take k).flatMap f ++ (l.drop k).flatMap f := by rw [← List.flatMap_append, List.take_append_drop]
  rw [this, List.length_append]; omega

set_option maxRecDepth 100000 in
set_option maxHeartbeats 4000000 in
theorem putText_any (t : ByteArray) (w0 w : World) (s : Value) (l : List UInt8) (h : Ow w0 s l w) (ht : t.size ≤ 1000000) (hl : l.length + (writtenL t.data.toList).length ≤ 1000000000) :
    Calls Tryd.prog 32 #[s, .string t] w (Wrote w0 s w l (writtenL t.data.toList)) := by
  have HH := (show Hid _ from And.intro h hl)
  clear h hl
  go_enter Tryd.func32, Tryd.ntmps32
  go_wp2_with fail
  go_loopg [0, 5, 8] t.size (fun gg s0 _ i wr => ∃ k : Nat, k ≤ t.size ∧ t.size - k ≤ gg ∧ i = .int .i64 k ∧ Aside (Ow w0 s0 (l ++ (t.data.toList.take k).flatMap wr1) wr ∧ Kp s w s0 wr))
  case atStart => exact ⟨0, Nat.zero_le _, by omega, rfl, by simpa using HH.out.1, Kp.refl _ _⟩
  case round =>
    rename_i s0 s5 i8 wr
    obtain ⟨k, hk, hgg, rfl, A⟩ := hrel
    by_cases hlt : k < t.size
    · obtain ⟨x, hx, hxl⟩ := kd_at hlt
      have hst := flat_take wr1 hxl
      have hsl := flat_take_len wr1 t.data.toList (k + 1)
      have z0 : (0 : Int) ≤ (k : Int) := by omega
      have z1 : (k : Int) < (t.size : Int) := by omega
      have HS := (show Hid _ from And.intro hst hsl)
      clear hst hsl hxl
      by_cases hx0 : x = 0
      · subst hx0
        have HW : Hid (wr1 0 = [0, 255]) := rfl
        have HB1 : Hid (l.length + ((t.data.toList.take k).flatMap wr1).length + 4 ≤ 1000000000) := by
          obtain ⟨hst, hsl⟩ := HS.out
          have := HH.out.2
          rw [hst, List.length_append, HW.out] at hsl
          unfold writtenL at this
          rw [List.length_append] at this
          simp only [List.length_cons, List.length_nil] at this hsl
          show _ ≤ _
          omega
        go_wp2_with (first | (at_builtin; refine append_bytes rfl (.tmp 11) (.tmp 15) rfl A.out.1 [0] _ 1 rfl (by decide) rfl rfl rfl (by have := HB1.out; rw [List.length_append]; omega) ?_; intro s1 u1 h1 k1; have H1 := (show Hid _ from And.intro h1 (A.out.2.trans k1)); clear h1 k1) | (at_builtin; refine append_bytes rfl (.tmp 21) (.tmp 22) rfl H1.out.1 [255] _ 1 rfl (by decide) rfl rfl rfl (by have := HB1.out; rw [List.length_append, List.length_append]; simp only [List.length_cons, List.length_nil]; omega) ?_; intro s2 u2 h1 k1; have H2 := (show Hid _ from And.intro h1 (H1.out.2.trans k1)); clear h1 k1))
        go_roundg (t.size - (k + 1))
        case measure => omega
        case rel =>
          refine ⟨k + 1, by omega, by omega, by go_num, ?_, H2.out.2⟩
          rw [HS.out.1, HW.out]
          simpa [List.append_assoc] using H2.out.1
      · have hne : ((x.toNat : Int) == 0) = false := by
          simp
          intro e
          exact hx0 (UInt8.toNat_inj.1 (by simpa using e))
        have HW : Hid (wr1 x = [x]) := if_neg hx0
        have HB1 : Hid (l.length + ((t.data.toList.take k).flatMap wr1).length + 3 ≤ 1000000000) := by
          obtain ⟨hst, hsl⟩ := HS.out
          have := HH.out.2
          rw [hst, List.length_append, HW.out] at hsl
          unfold writtenL at this
          rw [List.length_append] at this
          simp only [List.length_cons, List.length_nil] at this hsl
          show _ ≤ _
          omega
        clear hx0
        go_wp2_with (first | (at_builtin; refine append_bytes rfl (.tmp 11) (.tmp 15) rfl A.out.1 [x] _ 1 rfl (by decide) rfl rfl rfl (by have := HB1.out; rw [List.length_append]; omega) ?_; intro s1 u1 h1 k1; have H1 := (show Hid _ from And.intro h1 (A.out.2.trans k1)); clear h1 k1))
        go_roundg (t.size - (k + 1))
        case measure => omega
        case rel =>
          refine ⟨k + 1, by omega, by omega, by go_num, ?_, H1.out.2⟩
          rw [HS.out.1, HW.out]
          simpa [List.append_assoc] using H1.out.1
    · have zk : ¬ (k : Int) < (t.size : Int) := by omega
      have HT : Hid ((t.data.toList.take k) = t.data.toList) := List.take_of_length_le (by simp; omega)
      have HB1 : Hid (l.length + ((t.data.toList.take k).flatMap wr1).length + 2 ≤ 1000000000) := by
        have := HH.out.2
        unfold writtenL at this
        rw [List.length_append] at this
        rw [HT.out]
        simp only [List.length_cons, List.length_nil] at this
        show _ ≤ _
        omega
      go_wp2_with (first | (at_builtin; refine append_bytes rfl (.tmp 25) (.tmp 26) rfl A.out.1 [0, 1] _ 2 rfl (by decide) rfl rfl rfl (by have := HB1.out; rw [List.length_append]; omega) ?_; intro s1 u1 h1 k1; have H1 := (show Hid _ from And.intro h1 (A.out.2.trans k1)); clear h1 k1))
      go_ret
      refine ⟨s1, rfl, ?_, H1.out.2⟩
      have := H1.out.1
      rw [HT.out] at this
      unfold writtenL
      simpa [List.append_assoc] using this
end Go.Proofs.YtehjdamdlokoaaaDoor
