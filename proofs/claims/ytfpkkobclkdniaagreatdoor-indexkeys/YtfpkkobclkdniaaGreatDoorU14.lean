/-
  The law's Find by its contract. Conditions: as stated (lists of at most ten values).
  The law's written, by its contract. Conditions: as stated.
  The law's Put, by its contract: kinds that have no rows. Conditions: as stated.
  The law's Put by its contract: lists, objects, values. Conditions: as stated.
-/
import Derived.Test.YtfpkkobclkdniaaGreatDoorU13
import Derived.Test.YtfpkkobclkdniaaGreatDoorU8
import Derived.BigQuiet
import Derived.Lib.QuietBelow
namespace Go.Proofs.YtfpkkobclkdniaaGreatDoor
open Go.RowKit

set_option maxRecDepth 100000 in
set_option maxHeartbeats 4000000 in
theorem LFind_from (n : Nat) (ps : List ByteArray) (s : Value) (v : V) (l f : Value) (w0 w : World) (hB0 : Below w0.heap.size w0 w) (hs : StrsAt w s ps) (hL : Lies n w0 v l f) (hT : Ten ps.length v) :
    Calls Tryz.prog 38 #[.agg #[.int .i64 v.kind, .int .i64 v.num, .string v.text, l, f], s] w fun e w' => GotAns w0 w w' (findP v ps) e := by
  obtain ⟨a1, c1, a3, c3, rfl, rfl⟩ := Rep.slices hL
  obtain ⟨a, cap, rfl, hc1, hc2, hcells⟩ := hs
  obtain ⟨W2, hW2⟩ : ∃ W, (w.alloc (.cells #[.int .i64 v.kind, .int .i64 v.num, .string v.text, .slice a1 v.list.length c1, .slice a3 v.fields.length c3] 40)).alloc (.cells #[.int .i64 0, .int .i64 0, .string ⟨#[]⟩, .slice none 0 0, .slice none 0 0] 40) = W := ⟨_, rfl⟩
  have hB2 : Below w.heap.size w W2 := by rw [← hW2]; exact ((Below.refl _ _).alloc (Nat.le_refl _) _).alloc (by simp) _
  have r0 : W2.heap[w.heap.size]? = some (.cells #[.int .i64 v.kind, .int .i64 v.num, .string v.text, .slice a1 v.list.length c1, .slice a3 v.fields.length c3] 40) := by rw [← hW2]; exact heap_alloc2_old
  have r1 : W2.heap[w.heap.size + 1]? = some (.cells #[.int .i64 0, .int .i64 0, .string ⟨#[]⟩, .slice none 0 0, .slice none 0 0] 40) := by rw [← hW2]; exact heap_alloc2_new
  have HH := (show Hid _ from And.intro hL (And.intro hT (And.intro hcells (And.intro hB2 (And.intro r0 r1)))))
  clear hL hT hB2 r0 r1 hcells
  go_enter Tryz.func38, Tryz.ntmps38
  go_wp2
  go_loopg [7, 8, 9, 12] ps.length (fun gg _ _ _ i wr => ∃ (k m : Nat) (u : V) (al cl af cf : _), k ≤ ps.length ∧ ps.length - k ≤ gg ∧ i = .int .i64 k ∧ Aside (Below w.heap.size w wr ∧ Lies m w0 u (.slice al u.list.length cl) (.slice af u.fields.length cf) ∧ Ten (ps.length - k) u ∧ findP v ps = findP u (ps.drop k) ∧
    wr.heap[w.heap.size]? = some (.cells #[.int .i64 u.kind, .int .i64 u.num, .string u.text, .slice al u.list.length cl, .slice af u.fields.length cf] 40 (0, 0)) ∧ wr.heap[w.heap.size + 1]? = some (.cells #[.int .i64 0, .int .i64 0, .string ⟨#[]⟩, .slice none 0 0, .slice none 0 0] 40 (0, 0))))
  case atStart =>
    obtain ⟨hL, hT, hcells, hB2, r0, r1⟩ := HH.out
    exact ⟨0, n, v, _, _, _, _, Nat.zero_le _, by omega, rfl, hB2, hL, hT, rfl, r0, r1⟩
  case round =>
    obtain ⟨k, m, u, al, cl, af, cf, hk, hgg, rfl, A⟩ := hrel
    obtain ⟨hB, hLu, hTu, hF, q0, q1⟩ := A.out
    obtain ⟨x0, x1, x2, x3, x4, xf⟩ := row5 q0
    obtain ⟨y0, y1, y2, y3, y4, yf⟩ := row5 q1
    by_cases hlt : k < ps.length
    · obtain ⟨hL, hT, hcells, hB2, r0, r1⟩ := HH.out
      obtain ⟨p, hpk⟩ : ∃ p, ps[k]? = some p := ⟨_, List.getElem?_eq_getElem hlt⟩
      have hdrop : ps.drop k = p :: ps.drop (k + 1) := by
        rw [List.drop_eq_getElem_cons hlt, ← (List.getElem?_eq_some_iff.1 hpk).2]
      obtain ⟨ab, ao, rfl, hcell⟩ := hcells (fun e => by rw [e] at hlt; simp at hlt)
      have c0 := hcell k p hpk
      have c0' : wr.cell? ⟨ab, ao + k, none⟩ = some (.string p) := (hB.cell (lt_of_cell c0)).trans c0
      have zk : (k : Int) < (ps.length : Int) := by omega
      rw [show ps.length - k = (ps.length - (k + 1)) + 1 by omega] at hTu
      have hcall := at6_any m u _ _ p w0 wr (hB0.trans (hB.mono hB0.size)) hLu fun _ => hTu.1
      rw [hdrop] at hF
      have hlt0 := lt_of_heap q0
      have hlt1 := lt_of_heap q1
      have T := (show Hid _ from And.intro hTu hF)
      clear hL hT hcells hB2 r0 r1 hcell c0 hB hLu hTu hF q0 q1
      rcases hat : atP u p with _ | y
      · rw [hat] at hcall
        have hcall' : Calls Tryz.prog 61 #[.agg #[.int .i64 u.kind, .int .i64 u.num, .string u.text, .slice al u.list.length cl, .slice af u.fields.length cf], .string p] wr fun e w' => ∃ l' f' m', e = .returned (.tuple #[.agg #[.int .i64 0, .int .i64 0, .string ⟨#[]⟩, l', f'], .bool false]) ∧ Lies m' w0 zeroV l' f' ∧ Below wr.heap.size wr w' := hcall
        have hatH := (show Hid _ from hat)
        clear hat hcall
        go_wp2_with fail
        refine hcall'.mono ?_
        rintro e w3 ⟨l', f', m', rfl, hLx, hb3⟩
        obtain ⟨hB, hLu, -, -, q0, q1⟩ := A.out
        obtain ⟨z1, d1, z3, d3, e1, e2⟩ := Rep.slices hLx
        have e1' : l' = .slice z1 0 d1 := e1
        have e2' : f' = .slice z3 0 d3 := e2
        subst e1' e2'
        obtain ⟨W4, hW4⟩ : ∃ W, w3.alloc (.cells #[.int .i64 0, .int .i64 0, .string ⟨#[]⟩, .slice z1 0 d1, .slice z3 0 d3] 40) = W := ⟨_, rfl⟩
        have hB4 : Below wr.heap.size wr W4 := by rw [← hW4]; exact hb3.alloc hb3.size _
        have q14 := (hB4.block _ (lt_of_heap q1)).trans q1
        obtain ⟨t0, t1, t2, t3, t4, tf⟩ := row5 q14
        have hBw4 := hB.trans (hB4.mono hB.size)
        have U := (show Hid _ from hBw4)
        clear hB hLu q0 q1 hLx e1 e2 hB4 q14 hBw4 hb3 hcall' x0 x1 x2 x3 x4 xf y0 y1 y2 y3 y4 yf
        go_wp2
        refine bodyPost_ret (v := .tuple #[.agg #[.int .i64 0, .int .i64 0, .string ⟨#[]⟩, .slice none 0 0, .slice none 0 0], .bool false]) (by simp [results, Tryz.results38, go_sem, t0, t1, t2, t3, t4]) rfl ?_
        rw [T.out.2, find_cons_none hatH.out]
        exact ⟨_, _, 0, rfl, ⟨rfl, rfl, rfl, rfl⟩, set5W_below U.out (Nat.le_succ _) 0 1 2 3 4 _ _ _ _ _⟩
      · rw [hat] at hcall
        have hcall' : Calls Tryz.prog 61 #[.agg #[.int .i64 u.kind, .int .i64 u.num, .string u.text, .slice al u.list.length cl, .slice af u.fields.length cf], .string p] wr fun e w' => ∃ l' f' m', e = .returned (.tuple #[.agg #[.int .i64 y.kind, .int .i64 y.num, .string y.text, l', f'], .bool true]) ∧ Lies m' w0 y l' f' ∧ Below wr.heap.size wr w' := hcall
        have hatH := (show Hid _ from hat)
        clear hat hcall
        go_wp2_with fail
        refine hcall'.mono ?_
        rintro e w3 ⟨l', f', m', rfl, hLx, hb3⟩
        obtain ⟨hB, hLu, -, -, q0, q1⟩ := A.out
        obtain ⟨z1, d1, z3, d3, rfl, rfl⟩ := Rep.slices hLx
        obtain ⟨W4, hW4⟩ : ∃ W, w3.alloc (.cells #[.int .i64 y.kind, .int .i64 y.num, .string y.text, .slice z1 y.list.length d1, .slice z3 y.fields.length d3] 40) = W := ⟨_, rfl⟩
        have hB4 : Below wr.heap.size wr W4 := by rw [← hW4]; exact hb3.alloc hb3.size _
        have q04 := (hB4.block _ (lt_of_heap q0)).trans q0
        have q14 := (hB4.block _ (lt_of_heap q1)).trans q1
        have qn : W4.heap[w3.heap.size]? = some (.cells #[.int .i64 y.kind, .int .i64 y.num, .string y.text, .slice z1 y.list.length d1, .slice z3 y.fields.length d3] 40) := by rw [← hW4]; exact heap_alloc_new w3 _
        obtain ⟨t0, t1, t2, t3, t4, tf⟩ := row5 q04
        obtain ⟨k0, k1, k2, k3, k4, kf⟩ := row5 qn
        have hBw4 := hB.trans (hB4.mono hB.size)
        have U := (show Hid _ from And.intro hBw4 (And.intro q04 (And.intro q14 hLx)))
        clear hB hLu q0 q1 hLx hB4 q04 q14 qn hBw4 hb3 hcall' x0 x1 x2 x3 x4 xf y0 y1 y2 y3 y4 yf
        go_wp2
        go_roundg (ps.length - (k + 1))
        case measure => omega
        case rel =>
          obtain ⟨hBw4, q04, q14, hLx⟩ := U.out
          refine ⟨k + 1, m', y, z1, d1, z3, d3, by omega, by omega, by go_num, (show Aside _ from ⟨?_, hLx, ten_at T.out.1 hatH.out, T.out.2.trans (find_cons_some hatH.out), box_set q04 _ _ _ _ _, (set5W_ne _ _ _ _ _ _ _ _ _ _ _ _ (by omega)).trans q14⟩)⟩
          exact set5W_below hBw4 (Nat.le_refl _) 0 1 2 3 4 _ _ _ _ _
    · have zk : ¬ (k : Int) < (ps.length : Int) := by omega
      have hd : ps.drop k = [] := List.drop_of_length_le (by omega)
      rw [hd] at hF
      have T := (show Hid _ from And.intro hB (And.intro hLu hF))
      have hlt0 := lt_of_heap q0
      have hlt1 := lt_of_heap q1
      clear hB hLu hF hTu q0 q1
      go_wp2
      refine bodyPost_ret (v := .tuple #[.agg #[.int .i64 u.kind, .int .i64 u.num, .string u.text, .slice al u.list.length cl, .slice af u.fields.length cf], .bool true]) (by simp [results, Tryz.results38, go_sem, y0, y1, y2, y3, y4]) rfl ?_
      rw [T.out.2.2]
      exact ⟨_, _, m, rfl, T.out.2.1, set5W_below T.out.1 (Nat.le_succ _) 0 1 2 3 4 _ _ _ _ _⟩
end Go.Proofs.YtfpkkobclkdniaaGreatDoor

namespace Go.Proofs.YtfpkkobclkdniaaGreatDoor
open Go.RowKit

theorem kslice (s : ByteArray) (k : Nat) (h : k + 1 ≤ s.size) (W : World) : (Instr.slice 9 (.string s) (some (.int .i64 (k : Int))) (some (.int .i64 ((k : Int) + 1))) none).run Tryz.prog W = .ok (.string (s.extract k (k + 1))) W := by
  rw [run_slice_string (P := Tryz.prog) W 9 s .i64 .i64 _ _ Tryz.underlying9 (by omega) (by omega) (by omega)]
  have e1 : ((k : Int)).toNat = k := by omega
  have e2 : ((k : Int) + 1).toNat = k + 1 := by omega
  rw [e1, e2]
theorem one_list (s : ByteArray) (k : Nat) (h : k < s.size) : (s.extract k (k + 1)).data.toList = [s[k]] := by
  have e : (s.extract k (k + 1)).data.toList = (s.data.toList.drop k).take 1 := by
    rw [ByteArray.data_extract, Array.toList_extract, List.extract_eq_take_drop, Nat.add_sub_cancel_left]
  have hl : k < s.data.toList.length := by rw [← ba_size]; exact h
  rw [e, List.drop_eq_getElem_cons hl]
  rfl
theorem kapp_list (a b : ByteArray) : (a ++ b).data.toList = a.data.toList ++ b.data.toList := by simp
theorem kof_list {a : ByteArray} {l : List UInt8} (h : a.data.toList = l) : a = ⟨l.toArray⟩ := by
  apply ByteArray.ext; apply Array.ext'; rw [h]

set_option maxRecDepth 100000 in
set_option maxHeartbeats 4000000 in
theorem lwritten_any (s : ByteArray) (hs : s.size ≤ 1000000) (w : World) : Calls Tryz.prog 48 #[.string s] w fun e w' => e = .returned (.string ⟨(writtenL s.data.toList).toArray⟩) ∧ w' = w := by
  obtain ⟨R, hR⟩ : ∃ R : ByteArray, (⟨(writtenL s.data.toList).toArray⟩ : ByteArray) = R := ⟨_, rfl⟩
  rw [hR]
  have HR := (show Hid _ from hR)
  clear hR
  go_enter Tryz.func48, Tryz.ntmps48
  go_wp2_with fail
  go_loopg [3, 4] s.size (fun gg o i wr => ∃ (k : Nat) (B : ByteArray), k ≤ s.size ∧ s.size - k ≤ gg ∧ i = .int .i64 k ∧ o = .string B ∧ B.size ≤ 2 * k ∧ Aside (B.data.toList = (s.data.toList.take k).flatMap wr1) ∧ Aside (wr = w))
  case atStart => exact ⟨0, ⟨#[]⟩, Nat.zero_le _, by omega, rfl, rfl, by decide, rfl, rfl⟩
  case round =>
    obtain ⟨k, B, hk, hgg, rfl, rfl, hBz, hB, hW⟩ := hrel
    by_cases hlt : k < s.size
    · have zk : (k : Int) < (s.size : Int) := by omega
      have zk0 : (0 : Int) ≤ (k : Int) := by omega
      have hsl := kslice s k (by omega)
      have hE := one_list s k hlt
      have hEz : (s.extract k (k + 1)).size ≤ 1 := by rw [ba_size, hE]; simp
      have htk : s.data.toList.take (k + 1) = s.data.toList.take k ++ [s[k]] := by
        have hl : k < s.data.toList.length := by rw [← ba_size]; exact hlt
        rw [List.take_add_one, List.getElem?_eq_getElem hl]; rfl
      generalize s.extract k (k + 1) = E at *
      have HE := (show Hid _ from And.intro hE htk)
      clear hE htk
      by_cases h0 : s[k] = 0
      · have h0' : ((s[k].toNat : Int) == 0) = true := by rw [h0]; rfl
        go_wp2_with fail
        go_roundg (s.size - (k + 1))
        case measure => omega
        case rel =>
          obtain ⟨hE, htk⟩ := HE.out
          refine ⟨k + 1, _, by omega, by omega, by go_num, rfl, ?_, ?_, hW.out⟩
          · simp only [ByteArray.size_append]; have : (⟨#[255]⟩ : ByteArray).size = 1 := rfl; omega
          · show _ = _
            rw [htk, kapp_list, kapp_list, hB.out, hE, h0]; simp [wr1]
      · have h0' : ((s[k].toNat : Int) == 0) = false := by
          simp
          intro e
          exact h0 (UInt8.toNat_inj.1 (by simpa using e))
        go_wp2_with fail
        go_roundg (s.size - (k + 1))
        case measure => omega
        case rel =>
          obtain ⟨hE, htk⟩ := HE.out
          refine ⟨k + 1, _, by omega, by omega, by go_num, rfl, ?_, ?_, hW.out⟩
          · simp only [ByteArray.size_append]; omega
          · show _ = _
            rw [htk, kapp_list, hB.out, hE]; simp [wr1, h0]
    · have zk : ¬ (k : Int) < (s.size : Int) := by omega
      have htk : s.data.toList.take k = s.data.toList := List.take_of_length_le (by rw [← ba_size]; omega)
      have HT := (show Hid _ from htk)
      clear htk
      go_wp2_with fail
      go_ret
      refine ⟨?_, hW.out⟩
      rw [← HR.out, kof_list (a := B ++ ⟨#[0, 1]⟩) (l := writtenL s.data.toList) (by rw [kapp_list, hB.out, HT.out]; rfl)]
      rfl
end Go.Proofs.YtfpkkobclkdniaaGreatDoor

namespace Go.Proofs.YtfpkkobclkdniaaGreatDoor
open Go.RowKit

/-- a byte as a text. -/
theorem byte_str (W : World) (b : Nat) (hb : W.heap.size = b) (k : Int) (h0 : 0 ≤ k) (h1 : k < 256) : (convert 24 9 (.slice (some ⟨b, 0, none⟩) 1 1)).run Tryz.prog (W.alloc (.cells #[.int .u8 k] 5)) = .ok (.string ⟨#[UInt8.ofNat k.toNat]⟩) (W.alloc (.cells #[.int .u8 k] 5)) := by
  subst hb
  refine run_convert_bytes_back _ 24 9 5 ⟨W.heap.size, 0, none⟩ 1 [UInt8.ofNat k.toNat] Tryz.underlying24 Tryz.underlying5 Tryz.underlying9 fun j hj => ?_
  have hj0 : j = 0 := by simp at hj; exact hj
  subst hj0
  have e : (UInt8.ofNat k.toNat).toNat = k.toNat := by rw [UInt8.toNat_ofNat']; omega
  have e2 : ((([UInt8.ofNat k.toNat])[0]'hj).toNat : Int) = k := by
    show ((UInt8.ofNat k.toNat).toNat : Int) = k
    rw [e]; omega
  rw [e2]
  exact cellK (heap_alloc_new W (.cells #[.int .u8 k] 5 (0, 0))) rfl
theorem xor_u64 (n : Int) (h : I64 n) : bits .xor .u64 (IntKind.u64.wrap n) 9223372036854775808 = (turnN n : Int) := by
  obtain ⟨h1, h2⟩ := h
  show IntKind.u64.wrap ((BitVec.ofInt 64 (IntKind.u64.wrap n) ^^^ BitVec.ofInt 64 9223372036854775808).toNat : Int) = _
  have e1 : (BitVec.ofInt 64 9223372036854775808).toNat = 9223372036854775808 := by decide
  have ew : IntKind.u64.wrap n = if n < 0 then n + 18446744073709551616 else n := by rw [IntKind.wrap_u64]; split <;> omega
  obtain ⟨a, ha⟩ : ∃ a : Nat, IntKind.u64.wrap n = (a : Int) := ⟨(IntKind.u64.wrap n).toNat, by rw [ew]; split <;> omega⟩
  have ha2 : a < 18446744073709551616 := by rw [ew] at ha; split at ha <;> omega
  have e2 : (BitVec.ofInt 64 (a : Int)).toNat = a := by
    rw [BitVec.ofInt_natCast, BitVec.toNat_ofNat]; exact Nat.mod_eq_of_lt (by omega)
  rw [ha, BitVec.toNat_xor, e1, e2, nat_xor_top a ha2, IntKind.wrap_u64]
  rw [ew] at ha
  unfold turnN
  split at ha <;> split <;> omega
theorem byte_of (U : Int) (m K : Nat) (hU : (m : Int) = U) : UInt8.ofNat (U / (K : Int) % 256).toNat = UInt8.ofNat (m / K) := by
  subst hU
  apply UInt8.toNat_inj.1
  rw [UInt8.toNat_ofNat', UInt8.toNat_ofNat']
  omega
theorem byte_of1 (U : Int) (m : Nat) (hU : (m : Int) = U) : UInt8.ofNat (U % 256).toNat = UInt8.ofNat m := by
  subst hU
  apply UInt8.toNat_inj.1
  rw [UInt8.toNat_ofNat', UInt8.toNat_ofNat']
  omega
theorem kd_below {kd num : Int} {text : ByteArray} {a1 : Option Addr} {n1 c1 : Nat} {a2 : Option Addr} {n2 c2 : Nat} (w : World) {o : Obj} : Below w.heap.size w ((w.alloc (.cells #[.int .i64 kd, .int .i64 num, .string text, .slice a1 n1 c1, .slice a2 n2 c2] 40)).alloc o) :=
  ((Below.refl _ _).alloc (Nat.le_refl _) _).alloc (by simp) _

set_option maxRecDepth 100000 in
set_option maxHeartbeats 4000000 in
theorem lput_bare (num : Int) (text : ByteArray) (a1 : Option Addr) (n1 c1 : Nat) (a2 : Option Addr) (n2 c2 : Nat) (w : World) :
    Calls Tryz.prog 29 #[.agg #[.int .i64 0, .int .i64 num, .string text, .slice a1 n1 c1, .slice a2 n2 c2]] w fun e w' => e = .returned (.string ⟨#[1]⟩) ∧ Below w.heap.size w w' := by
  have hcv := byte_str (w.alloc (.cells #[.int .i64 0, .int .i64 num, .string text, .slice a1 n1 c1, .slice a2 n2 c2] 40)) (w.heap.size + 1) (by simp) 1 (by decide) (by decide)
  rw [show UInt8.ofNat (1 : Int).toNat = 1 from rfl] at hcv
  go_enter Tryz.func29, Tryz.ntmps29
  go_wp2_with fail
  go_ret
  exact ⟨rfl, kd_below w⟩
set_option maxRecDepth 100000 in
set_option maxHeartbeats 4000000 in
theorem lput_bool (text : ByteArray) (a1 : Option Addr) (n1 c1 : Nat) (a2 : Option Addr) (n2 c2 : Nat) (w : World) (num : Int) (hn : num = 0 ∨ num = 1) :
    Calls Tryz.prog 29 #[.agg #[.int .i64 1, .int .i64 num, .string text, .slice a1 n1 c1, .slice a2 n2 c2]] w fun e w' => e = .returned (.string ⟨#[2, UInt8.ofNat num.toNat]⟩) ∧ Below w.heap.size w w' := by
  have hcv := byte_str (w.alloc (.cells #[.int .i64 1, .int .i64 num, .string text, .slice a1 n1 c1, .slice a2 n2 c2] 40)) (w.heap.size + 1) (by simp) 2 (by decide) (by decide)
  rw [show UInt8.ofNat (2 : Int).toNat = 2 from rfl] at hcv
  have hcw := byte_str ((w.alloc (.cells #[.int .i64 1, .int .i64 num, .string text, .slice a1 n1 c1, .slice a2 n2 c2] 40)).alloc (.cells #[.int .u8 2] 5)) (w.heap.size + 1 + 1) (by simp) num (by omega) (by omega)
  rcases hn with rfl | rfl
  · rw [show UInt8.ofNat (0 : Int).toNat = 0 from rfl] at hcw
    show Calls _ _ _ _ fun e w' => e = .returned (.string ⟨#[2, 0]⟩) ∧ _
    go_enter Tryz.func29, Tryz.ntmps29
    go_wp2_with fail
    go_ret
    exact ⟨rfl, (kd_below w).alloc (by simp; omega) _⟩
  · rw [show UInt8.ofNat (1 : Int).toNat = 1 from rfl] at hcw
    show Calls _ _ _ _ fun e w' => e = .returned (.string ⟨#[2, 1]⟩) ∧ _
    go_enter Tryz.func29, Tryz.ntmps29
    go_wp2_with fail
    go_ret
    exact ⟨rfl, (kd_below w).alloc (by simp; omega) _⟩
set_option maxRecDepth 100000 in
set_option maxHeartbeats 4000000 in
theorem lput_text (num : Int) (text : ByteArray) (a1 : Option Addr) (n1 c1 : Nat) (a2 : Option Addr) (n2 c2 : Nat) (w : World) (ht : text.size ≤ 1000000) :
    Calls Tryz.prog 29 #[.agg #[.int .i64 3, .int .i64 num, .string text, .slice a1 n1 c1, .slice a2 n2 c2]] w fun e w' => e = .returned (.string ⟨(4 :: writtenL text.data.toList).toArray⟩) ∧ Below w.heap.size w w' := by
  have hcv := byte_str (w.alloc (.cells #[.int .i64 3, .int .i64 num, .string text, .slice a1 n1 c1, .slice a2 n2 c2] 40)) (w.heap.size + 1) (by simp) 4 (by decide) (by decide)
  rw [show UInt8.ofNat (4 : Int).toNat = 4 from rfl] at hcv
  have hwr := fun W => lwritten_any text ht W
  have hlen := written_len text.data.toList
  rw [← ba_size] at hlen
  obtain ⟨P, hP⟩ : ∃ P : ByteArray, (⟨(writtenL text.data.toList).toArray⟩ : ByteArray) = P := ⟨_, rfl⟩
  have hPl : P.data.toList = writtenL text.data.toList := by rw [← hP]
  have hPz : P.size ≤ 3000000 := by rw [ba_size, hPl]; omega
  rw [hP] at hwr
  obtain ⟨R, hR⟩ : ∃ R : ByteArray, (⟨(4 :: writtenL text.data.toList).toArray⟩ : ByteArray) = R := ⟨_, rfl⟩
  rw [hR]
  have HP := (show Hid _ from And.intro hPl hR)
  clear hP hPl hR hlen ht
  go_enter Tryz.func29, Tryz.ntmps29
  go_wp2_with fail
  refine (hwr _).mono ?_
  rintro e w1 ⟨rfl, hw1⟩
  clear hwr
  have H1 : Hid (Below w.heap.size w w1) := by rw [hw1]; exact kd_below w
  clear hw1
  go_wp2_with fail
  go_ret
  refine ⟨?_, H1.out⟩
  rw [← HP.out.2, kof_list (a := ⟨#[4]⟩ ++ P) (l := 4 :: writtenL text.data.toList) (by rw [kapp_list, HP.out.1]; rfl)]
  rfl
set_option maxRecDepth 100000 in
set_option maxHeartbeats 4000000 in
theorem lput_int (num : Int) (text : ByteArray) (a1 : Option Addr) (n1 c1 : Nat) (a2 : Option Addr) (n2 c2 : Nat) (w : World) (hn : I64 num) :
    Calls Tryz.prog 29 #[.agg #[.int .i64 2, .int .i64 num, .string text, .slice a1 n1 c1, .slice a2 n2 c2]] w fun e w' => e = .returned (.string ⟨(3 :: intL num).toArray⟩) ∧ Below w.heap.size w w' := by
  have hcv := byte_str (w.alloc (.cells #[.int .i64 2, .int .i64 num, .string text, .slice a1 n1 c1, .slice a2 n2 c2] 40)) (w.heap.size + 1) (by simp) 3 (by decide) (by decide)
  rw [show UInt8.ofNat (3 : Int).toNat = 3 from rfl] at hcv
  have hx := xor_u64 num hn
  obtain ⟨m, hm⟩ : ∃ m, turnN num = m := ⟨_, rfl⟩
  obtain ⟨U, hU⟩ : ∃ U : Int, (m : Int) = U := ⟨_, rfl⟩
  rw [hm, hU] at hx
  have hI : intL num = eight m := by rw [← hm]; rfl
  rw [hI]
  obtain ⟨R, hR⟩ : ∃ R : ByteArray, (⟨(3 :: eight m).toArray⟩ : ByteArray) = R := ⟨_, rfl⟩
  rw [hR]
  have HH := (show Hid _ from And.intro hU hR)
  clear hn hm hU hI hR
  go_enter Tryz.func29, Tryz.ntmps29
  go_wp2_with fail
  go_loopg [3, 5] 8 (fun gg o i wr => ∃ (k : Nat) (B : ByteArray), k ≤ 8 ∧ 8 - k ≤ gg ∧ i = .int .i64 (56 - 8 * (k : Int)) ∧ o = .string B ∧ B.size ≤ 1 + k ∧ Aside (B.data.toList = 3 :: (eight m).take k) ∧ Aside (Below w.heap.size w wr))
  case atStart => exact ⟨0, ⟨#[3]⟩, by omega, by omega, rfl, rfl, by decide, rfl, kd_below w⟩
  case round =>
    obtain ⟨k, B, hk, hgg, rfl, rfl, hBz, hB, hW⟩ := hrel
    have hUm := HH.out.1
    obtain rfl | rfl | rfl | rfl | rfl | rfl | rfl | rfl | rfl : k = 0 ∨ k = 1 ∨ k = 2 ∨ k = 3 ∨ k = 4 ∨ k = 5 ∨ k = 6 ∨ k = 7 ∨ k = 8 := by omega
    · rw [show (56 - 8 * ((0 : Nat) : Int)) = 56 from rfl]
      have hcb := byte_str wr wr.heap.size rfl (U / 72057594037927936 % 256) (by omega) (by omega)
      rw [show UInt8.ofNat (U / 72057594037927936 % 256).toNat = UInt8.ofNat (m / 72057594037927936) from byte_of U m 72057594037927936 hUm] at hcb
      have hE1 : (⟨#[UInt8.ofNat (m / 72057594037927936)]⟩ : ByteArray).data.toList = [UInt8.ofNat (m / 72057594037927936)] := rfl
      have hE2 : (⟨#[UInt8.ofNat (m / 72057594037927936)]⟩ : ByteArray).size = 1 := rfl
      generalize (⟨#[UInt8.ofNat (m / 72057594037927936)]⟩ : ByteArray) = E at hcb hE1 hE2
      have HE := (show Hid _ from hE1)
      clear hE1 hUm
      go_wp2_with fail
      go_roundg (7)
      case measure => omega
      case rel =>
        refine ⟨1, B ++ E, by omega, by omega, by go_num, rfl, by rw [ByteArray.size_append]; omega, ?_, hW.out.alloc hW.out.size _⟩
        show _ = _
        rw [kapp_list, hB.out, HE.out]; rfl
    · rw [show (56 - 8 * ((1 : Nat) : Int)) = 48 from rfl]
      have hcb := byte_str wr wr.heap.size rfl (U / 281474976710656 % 256) (by omega) (by omega)
      rw [show UInt8.ofNat (U / 281474976710656 % 256).toNat = UInt8.ofNat (m / 281474976710656) from byte_of U m 281474976710656 hUm] at hcb
      have hE1 : (⟨#[UInt8.ofNat (m / 281474976710656)]⟩ : ByteArray).data.toList = [UInt8.ofNat (m / 281474976710656)] := rfl
      have hE2 : (⟨#[UInt8.ofNat (m / 281474976710656)]⟩ : ByteArray).size = 1 := rfl
      generalize (⟨#[UInt8.ofNat (m / 281474976710656)]⟩ : ByteArray) = E at hcb hE1 hE2
      have HE := (show Hid _ from hE1)
      clear hE1 hUm
      go_wp2_with fail
      go_roundg (6)
      case measure => omega
      case rel =>
        refine ⟨2, B ++ E, by omega, by omega, by go_num, rfl, by rw [ByteArray.size_append]; omega, ?_, hW.out.alloc hW.out.size _⟩
        show _ = _
        rw [kapp_list, hB.out, HE.out]; rfl
    · rw [show (56 - 8 * ((2 : Nat) : Int)) = 40 from rfl]
      have hcb := byte_str wr wr.heap.size rfl (U / 1099511627776 % 256) (by omega) (by omega)
      rw [show UInt8.ofNat (U / 1099511627776 % 256).toNat = UInt8.ofNat (m / 1099511627776) from byte_of U m 1099511627776 hUm] at hcb
      have hE1 : (⟨#[UInt8.ofNat (m / 1099511627776)]⟩ : ByteArray).data.toList = [UInt8.ofNat (m / 1099511627776)] := rfl
      have hE2 : (⟨#[UInt8.ofNat (m / 1099511627776)]⟩ : ByteArray).size = 1 := rfl
      generalize (⟨#[UInt8.ofNat (m / 1099511627776)]⟩ : ByteArray) = E at hcb hE1 hE2
      have HE := (show Hid _ from hE1)
      clear hE1 hUm
      go_wp2_with fail
      go_roundg (5)
      case measure => omega
      case rel =>
        refine ⟨3, B ++ E, by omega, by omega, by go_num, rfl, by rw [ByteArray.size_append]; omega, ?_, hW.out.alloc hW.out.size _⟩
        show _ = _
        rw [kapp_list, hB.out, HE.out]; rfl
    · rw [show (56 - 8 * ((3 : Nat) : Int)) = 32 from rfl]
      have hcb := byte_str wr wr.heap.size rfl (U / 4294967296 % 256) (by omega) (by omega)
      rw [show UInt8.ofNat (U / 4294967296 % 256).toNat = UInt8.ofNat (m / 4294967296) from byte_of U m 4294967296 hUm] at hcb
      have hE1 : (⟨#[UInt8.ofNat (m / 4294967296)]⟩ : ByteArray).data.toList = [UInt8.ofNat (m / 4294967296)] := rfl
      have hE2 : (⟨#[UInt8.ofNat (m / 4294967296)]⟩ : ByteArray).size = 1 := rfl
      generalize (⟨#[UInt8.ofNat (m / 4294967296)]⟩ : ByteArray) = E at hcb hE1 hE2
      have HE := (show Hid _ from hE1)
      clear hE1 hUm
      go_wp2_with fail
      go_roundg (4)
      case measure => omega
      case rel =>
        refine ⟨4, B ++ E, by omega, by omega, by go_num, rfl, by rw [ByteArray.size_append]; omega, ?_, hW.out.alloc hW.out.size _⟩
        show _ = _
        rw [kapp_list, hB.out, HE.out]; rfl
    · rw [show (56 - 8 * ((4 : Nat) : Int)) = 24 from rfl]
      have hcb := byte_str wr wr.heap.size rfl (U / 16777216 % 256) (by omega) (by omega)
      rw [show UInt8.ofNat (U / 16777216 % 256).toNat = UInt8.ofNat (m / 16777216) from byte_of U m 16777216 hUm] at hcb
      have hE1 : (⟨#[UInt8.ofNat (m / 16777216)]⟩ : ByteArray).data.toList = [UInt8.ofNat (m / 16777216)] := rfl
      have hE2 : (⟨#[UInt8.ofNat (m / 16777216)]⟩ : ByteArray).size = 1 := rfl
      generalize (⟨#[UInt8.ofNat (m / 16777216)]⟩ : ByteArray) = E at hcb hE1 hE2
      have HE := (show Hid _ from hE1)
      clear hE1 hUm
      go_wp2_with fail
      go_roundg (3)
      case measure => omega
      case rel =>
        refine ⟨5, B ++ E, by omega, by omega, by go_num, rfl, by rw [ByteArray.size_append]; omega, ?_, hW.out.alloc hW.out.size _⟩
        show _ = _
        rw [kapp_list, hB.out, HE.out]; rfl
    · rw [show (56 - 8 * ((5 : Nat) : Int)) = 16 from rfl]
      have hcb := byte_str wr wr.heap.size rfl (U / 65536 % 256) (by omega) (by omega)
      rw [show UInt8.ofNat (U / 65536 % 256).toNat = UInt8.ofNat (m / 65536) from byte_of U m 65536 hUm] at hcb
      have hE1 : (⟨#[UInt8.ofNat (m / 65536)]⟩ : ByteArray).data.toList = [UInt8.ofNat (m / 65536)] := rfl
      have hE2 : (⟨#[UInt8.ofNat (m / 65536)]⟩ : ByteArray).size = 1 := rfl
      generalize (⟨#[UInt8.ofNat (m / 65536)]⟩ : ByteArray) = E at hcb hE1 hE2
      have HE := (show Hid _ from hE1)
      clear hE1 hUm
      go_wp2_with fail
      go_roundg (2)
      case measure => omega
      case rel =>
        refine ⟨6, B ++ E, by omega, by omega, by go_num, rfl, by rw [ByteArray.size_append]; omega, ?_, hW.out.alloc hW.out.size _⟩
        show _ = _
        rw [kapp_list, hB.out, HE.out]; rfl
    · rw [show (56 - 8 * ((6 : Nat) : Int)) = 8 from rfl]
      have hcb := byte_str wr wr.heap.size rfl (U / 256 % 256) (by omega) (by omega)
      rw [show UInt8.ofNat (U / 256 % 256).toNat = UInt8.ofNat (m / 256) from byte_of U m 256 hUm] at hcb
      have hE1 : (⟨#[UInt8.ofNat (m / 256)]⟩ : ByteArray).data.toList = [UInt8.ofNat (m / 256)] := rfl
      have hE2 : (⟨#[UInt8.ofNat (m / 256)]⟩ : ByteArray).size = 1 := rfl
      generalize (⟨#[UInt8.ofNat (m / 256)]⟩ : ByteArray) = E at hcb hE1 hE2
      have HE := (show Hid _ from hE1)
      clear hE1 hUm
      go_wp2_with fail
      go_roundg (1)
      case measure => omega
      case rel =>
        refine ⟨7, B ++ E, by omega, by omega, by go_num, rfl, by rw [ByteArray.size_append]; omega, ?_, hW.out.alloc hW.out.size _⟩
        show _ = _
        rw [kapp_list, hB.out, HE.out]; rfl
    · rw [show (56 - 8 * ((7 : Nat) : Int)) = 0 from rfl]
      have hcb := byte_str wr wr.heap.size rfl (U % 256) (by omega) (by omega)
      rw [byte_of1 U m hUm] at hcb
      have hE1 : (⟨#[UInt8.ofNat (m)]⟩ : ByteArray).data.toList = [UInt8.ofNat (m)] := rfl
      have hE2 : (⟨#[UInt8.ofNat (m)]⟩ : ByteArray).size = 1 := rfl
      generalize (⟨#[UInt8.ofNat (m)]⟩ : ByteArray) = E at hcb hE1 hE2
      have HE := (show Hid _ from hE1)
      clear hE1 hUm
      go_wp2_with fail
      go_roundg (0)
      case measure => omega
      case rel =>
        refine ⟨8, B ++ E, by omega, by omega, by go_num, rfl, by rw [ByteArray.size_append]; omega, ?_, hW.out.alloc hW.out.size _⟩
        show _ = _
        rw [kapp_list, hB.out, HE.out]; rfl
    · rw [show (56 - 8 * ((8 : Nat) : Int)) = -8 from rfl]
      clear hUm
      go_wp2_with fail
      go_ret
      refine ⟨?_, hW.out⟩
      rw [← HH.out.2, kof_list (a := B) (l := 3 :: eight m) (by rw [hB.out]; rfl)]
      rfl
end Go.Proofs.YtfpkkobclkdniaaGreatDoor

namespace Go.Proofs.YtfpkkobclkdniaaGreatDoor
open Go.RowKit

def LPutAt (n : Nat) : Prop := ∀ (x : V), Nice n x → ∀ (l f : Value) (w : World), Lies n w x l f → (putV (n + 1) x).length ≤ 100000 →
  Calls Tryz.prog 29 #[.agg #[.int .i64 x.kind, .int .i64 x.num, .string x.text, l, f]] w fun e w' => e = .returned (.string ⟨(putV (n + 1) x).toArray⟩) ∧ Below w.heap.size w w'
theorem ksize_list {a : ByteArray} {l : List UInt8} (h : a.data.toList = l) : a.size = l.length := by rw [ba_size, h]

set_option maxRecDepth 100000 in
set_option maxHeartbeats 4000000 in
theorem lput_list (n : Nat) (ih : LPutAt n) (num : Int) (text : ByteArray) (fa : Option Addr) (fn fc : Nat)
    (w0 : World) (xs : List El) (sl : Value) (hrow : RowAt (fun _ => True) w0 40 5 sl xs.length (encEs xs)) (hl : ∀ e ∈ xs, Lies n w0 e.v e.l e.f) (hf : ∀ e ∈ xs, Nice n e.v)
    (ls : List V) (hps : ls = xs.map El.v) (hlen : (ls.flatMap (putV (n + 1))).length + 2 ≤ 100000) :
    Calls Tryz.prog 29 #[.agg #[.int .i64 4, .int .i64 num, .string text, sl, .slice fa fn fc]] w0 fun e w' => e = .returned (.string ⟨(5 :: (ls.flatMap (putV (n + 1)) ++ [0])).toArray⟩) ∧ Below w0.heap.size w0 w' := by
  obtain ⟨aa, ca, rfl⟩ := hrow.slice
  have na := hrow.2.1
  have hcv := byte_str (w0.alloc (.cells #[.int .i64 4, .int .i64 num, .string text, .slice aa xs.length ca, .slice fa fn fc] 40)) (w0.heap.size + 1) (by simp) 5 (by decide) (by decide)
  rw [show UInt8.ofNat (5 : Int).toNat = 5 from rfl] at hcv
  have HH := (show Hid _ from And.intro hrow (And.intro hl (And.intro hf (And.intro hps hlen))))
  have hI := (show Hid _ from ih)
  obtain ⟨R, hR⟩ : ∃ R : ByteArray, (⟨(5 :: (ls.flatMap (putV (n + 1)) ++ [0])).toArray⟩ : ByteArray) = R := ⟨_, rfl⟩
  rw [hR]
  have HR := (show Hid _ from hR)
  clear hrow hl hf hps hlen ih hR
  go_enter Tryz.func29, Tryz.ntmps29
  go_wp2_with fail
  clear hcv
  go_loopg [3, 7, 57] xs.length (fun gg s3 _ i wr => ∃ (k : Nat) (B : ByteArray), k ≤ xs.length ∧ xs.length - k ≤ gg ∧ i = .int .i64 k ∧ s3 = .string B ∧ Aside (B.data.toList = 5 :: (ls.take k).flatMap (putV (n + 1))) ∧ Aside (Below w0.heap.size w0 wr))
  case atStart => exact ⟨0, ⟨#[5]⟩, Nat.zero_le _, by omega, rfl, rfl, rfl, kd_below w0⟩
  case round =>
    obtain ⟨k, B, hk, hgg, rfl, rfl, hB, hW⟩ := hrel
    obtain ⟨hrow, hl, hf, hps, hlen⟩ := HH.out
    have hBz : B.size ≤ 100000 := by
      rw [ksize_list hB.out]
      have := flat_take_len (putV (n + 1)) ls k
      simp only [List.length_cons]
      omega
    by_cases hlt : k < xs.length
    · obtain ⟨b0, c', e1, hb0, _, hc1, hc2, _⟩ := hrow.cells (by omega)
      simp only [Value.slice.injEq, true_and] at e1
      obtain ⟨rfl, rfl⟩ := e1
      obtain ⟨⟨xv, xl, xf⟩, hx⟩ : ∃ x, xs[k]? = some x := ⟨_, List.getElem?_eq_getElem hlt⟩
      obtain ⟨a0, a1, a2, a3, a4⟩ := (hrow.move fun c _ hl => ⟨trivial, hW.out.block c hl⟩).el hx
      have hlx : Lies n wr xv xl xf := (hl _ (List.mem_of_getElem? hx)).below hW.out
      have hfx : Nice n xv := hf _ (List.mem_of_getElem? hx)
      simp only at a0 a1 a2 a3 a4
      obtain ⟨al, cl, af, cf, rfl, rfl⟩ := hlx.slices
      have hpk : ls[k]? = some xv := by rw [hps, List.getElem?_map, hx]; rfl
      have hst := flat_take (putV (n + 1)) hpk
      have hsl := flat_take_len (putV (n + 1)) ls (k + 1)
      rw [hst, List.length_append] at hsl
      obtain ⟨O, hO⟩ : ∃ O, O = Obj.cells #[.int .i64 xv.kind, .int .i64 xv.num, .string xv.text, .slice al xv.list.length cl, .slice af xv.fields.length cf] 40 := ⟨_, rfl⟩
      have hBa : Below wr.heap.size wr (wr.alloc O) := (Below.refl _ _).alloc (Nat.le_refl _) _
      obtain ⟨P, hP⟩ : ∃ P : ByteArray, (⟨(putV (n + 1) xv).toArray⟩ : ByteArray) = P := ⟨_, rfl⟩
      have hPl : P.data.toList = putV (n + 1) xv := by rw [← hP]
      have hPz : P.size ≤ 100000 := by rw [ksize_list hPl]; omega
      have hcall := hI.out xv hfx _ _ (wr.alloc O) (hlx.below hBa) (by omega)
      rw [hP, hO] at hcall
      have zk : (k : Int) < (xs.length : Int) := by omega
      have hb0r : b0 < wr.heap.size := Nat.lt_of_lt_of_le hb0 hW.out.size
      have H2 := (show Hid _ from And.intro hst (And.intro hPl (And.intro hO hBa)))
      clear hrow hl hf hps hlen hlx hfx hpk hst hsl hO hBa hx hP hPl
      go_wp2_with fail
      refine hcall.mono ?_
      rintro e w2 ⟨rfl, hb2⟩
      have H3 := (show Hid _ from hb2)
      clear hcall hb2
      go_wp2_with fail
      go_roundg (xs.length - (k + 1))
      case measure => omega
      case rel =>
        obtain ⟨hst, hPl, hO, hBa⟩ := H2.out
        have hb2 := H3.out
        rw [← hO] at hb2
        refine ⟨k + 1, _, by omega, by omega, by go_num, rfl, ?_, (hW.out.trans (hBa.mono hW.out.size)).trans (hb2.mono (Nat.le_trans hW.out.size hBa.size))⟩
        show _ = _
        rw [hst, kapp_list, hB.out, hPl]
        rfl
    · have zk : ¬ (k : Int) < (xs.length : Int) := by omega
      have htk : ls.take k = ls := List.take_of_length_le (by rw [hps]; simp; omega)
      have hBl : B.data.toList = 5 :: ls.flatMap (putV (n + 1)) := by rw [hB.out, htk]
      have H2 := (show Hid _ from hBl)
      clear hrow hl hf hps hlen hBl htk
      go_wp2_with fail
      go_ret
      refine ⟨?_, hW.out⟩
      show Ending.returned (.string (B ++ ⟨#[0]⟩)) = _
      rw [← HR.out, kof_list (a := B ++ ⟨#[0]⟩) (l := 5 :: (ls.flatMap (putV (n + 1)) ++ [0])) (by rw [kapp_list, H2.out]; rfl)]

set_option maxRecDepth 100000 in
set_option maxHeartbeats 4000000 in
theorem lput_fields (n : Nat) (ih : LPutAt n) (num : Int) (text : ByteArray) (fa : Option Addr) (fn fc : Nat)
    (w0 : World) (xs : List Fl) (sl : Value) (hrow : RowAt (fun _ => True) w0 72 6 sl xs.length (encFs xs)) (hl : ∀ e ∈ xs, Lies n w0 e.v e.l e.f) (hf : ∀ e ∈ xs, e.name.size ≤ 1 ∧ Nice n e.v)
    (ps : List (ByteArray × V)) (hps : ps = xs.map Fl.pair) (hlen : (ps.flatMap (fieldL (putV (n + 1)))).length + 2 ≤ 100000) :
    Calls Tryz.prog 29 #[.agg #[.int .i64 5, .int .i64 num, .string text, .slice fa fn fc, sl]] w0 fun e w' => e = .returned (.string ⟨(6 :: (ps.flatMap (fieldL (putV (n + 1))) ++ [0])).toArray⟩) ∧ Below w0.heap.size w0 w' := by
  obtain ⟨aa, ca, rfl⟩ := hrow.slice
  have na := hrow.2.1
  have hcv := byte_str (w0.alloc (.cells #[.int .i64 5, .int .i64 num, .string text, .slice fa fn fc, .slice aa xs.length ca] 40)) (w0.heap.size + 1) (by simp) 6 (by decide) (by decide)
  rw [show UInt8.ofNat (6 : Int).toNat = 6 from rfl] at hcv
  have HH := (show Hid _ from And.intro hrow (And.intro hl (And.intro hf (And.intro hps hlen))))
  have hI := (show Hid _ from ih)
  obtain ⟨R, hR⟩ : ∃ R : ByteArray, (⟨(6 :: (ps.flatMap (fieldL (putV (n + 1))) ++ [0])).toArray⟩ : ByteArray) = R := ⟨_, rfl⟩
  rw [hR]
  have HR := (show Hid _ from hR)
  clear hrow hl hf hps hlen ih hR
  go_enter Tryz.func29, Tryz.ntmps29
  go_wp2_with fail
  clear hcv
  go_loopg [3, 9, 73] xs.length (fun gg s3 _ i wr => ∃ (k : Nat) (B : ByteArray), k ≤ xs.length ∧ xs.length - k ≤ gg ∧ i = .int .i64 k ∧ s3 = .string B ∧ Aside (B.data.toList = 6 :: (ps.take k).flatMap (fieldL (putV (n + 1)))) ∧ Aside (Below w0.heap.size w0 wr))
  case atStart => exact ⟨0, ⟨#[6]⟩, Nat.zero_le _, by omega, rfl, rfl, rfl, kd_below w0⟩
  case round =>
    obtain ⟨k, B, hk, hgg, rfl, rfl, hB, hW⟩ := hrel
    obtain ⟨hrow, hl, hf, hps, hlen⟩ := HH.out
    have hBz : B.size ≤ 100000 := by
      rw [ksize_list hB.out]
      have := flat_take_len (fieldL (putV (n + 1))) ps k
      simp only [List.length_cons]
      omega
    by_cases hlt : k < xs.length
    · obtain ⟨b0, c', e1, hb0, _, hc1, hc2, _⟩ := hrow.cells (by omega)
      simp only [Value.slice.injEq, true_and] at e1
      obtain ⟨rfl, rfl⟩ := e1
      obtain ⟨⟨xn, xv, xl, xf⟩, hx⟩ : ∃ x, xs[k]? = some x := ⟨_, List.getElem?_eq_getElem hlt⟩
      obtain ⟨a0, a1, a2, a3, a4, a5⟩ := (hrow.move fun c _ hl => ⟨trivial, hW.out.block c hl⟩).fl hx
      have hlx : Lies n wr xv xl xf := (hl _ (List.mem_of_getElem? hx)).below hW.out
      have hfx : xn.size ≤ 1 ∧ Nice n xv := hf _ (List.mem_of_getElem? hx)
      obtain ⟨hxz, hfx⟩ := hfx
      simp only at a0 a1 a2 a3 a4 a5
      obtain ⟨al, cl, af, cf, rfl, rfl⟩ := hlx.slices
      have hpk : ps[k]? = some (xn, xv) := by rw [hps, List.getElem?_map, hx]; rfl
      have hst := flat_take (fieldL (putV (n + 1))) hpk
      have hsl := flat_take_len (fieldL (putV (n + 1))) ps (k + 1)
      rw [hst, List.length_append] at hsl
      have hfl : (fieldL (putV (n + 1)) (xn, xv)).length = 1 + (writtenL xn.data.toList).length + (putV (n + 1) xv).length := by
        show (1 :: (writtenL xn.data.toList ++ putV (n + 1) xv)).length = _
        rw [List.length_cons, List.length_append]; omega
      rw [hfl] at hsl
      obtain ⟨O, hO⟩ : ∃ O, O = Obj.cells #[.string xn, .int .i64 xv.kind, .int .i64 xv.num, .string xv.text, .slice al xv.list.length cl, .slice af xv.fields.length cf] 72 := ⟨_, rfl⟩
      have hBa : Below wr.heap.size wr (wr.alloc O) := (Below.refl _ _).alloc (Nat.le_refl _) _
      obtain ⟨P, hP⟩ : ∃ P : ByteArray, (⟨(putV (n + 1) xv).toArray⟩ : ByteArray) = P := ⟨_, rfl⟩
      have hPl : P.data.toList = putV (n + 1) xv := by rw [← hP]
      have hPz : P.size ≤ 100000 := by rw [ksize_list hPl]; omega
      obtain ⟨Q, hQ⟩ : ∃ P : ByteArray, (⟨(writtenL xn.data.toList).toArray⟩ : ByteArray) = P := ⟨_, rfl⟩
      have hQl : Q.data.toList = writtenL xn.data.toList := by rw [← hQ]
      have hQz : Q.size ≤ 100000 := by rw [ksize_list hQl]; omega
      have hprint := fun d os => Calls.regrown_of (w := wr.alloc O) (d := d) (os := os) ((hI.out xv hfx _ _ (Go.Sort.grow (redrawn (wr.alloc O) d) os) ((hlx.below hBa).below (below_regrown _ d os)) (by omega)).mono fun e w' h => (show e = .returned (.string P) ∧ _ from ⟨by rw [h.1, ← hP], h.2⟩))
      have hquote := fun d os => Calls.regrown_of (w := wr.alloc O) (d := d) (os := os) ((lwritten_any xn (by omega) (Go.Sort.grow (redrawn (wr.alloc O) d) os)).mono fun e w' h => (show e = .returned (.string Q) ∧ _ from ⟨by rw [h.1, ← hQ], by rw [h.2]; exact Below.refl _ _⟩))
      have rO : (wr.alloc O).heap[wr.heap.size]? = some (.cells #[.string xn, .int .i64 xv.kind, .int .i64 xv.num, .string xv.text, .slice al xv.list.length cl, .slice af xv.fields.length cf] 72 (0, 0)) := by rw [heap_alloc_new, hO]
      obtain ⟨g0, g1, g2, g3, g4, g5, gf⟩ := row6 rO
      have G0 := fun d os => below_regrown_cell g0 d os
      have G1 := fun d os => below_regrown_cell g1 d os
      have G2 := fun d os => below_regrown_cell g2 d os
      have G3 := fun d os => below_regrown_cell g3 d os
      have G4 := fun d os => below_regrown_cell g4 d os
      have G5 := fun d os => below_regrown_cell g5 d os
      rw [hO] at G0 G1 G2 G3 G4 G5 hprint hquote
      have zk : (k : Int) < (xs.length : Int) := by omega
      have hb0r : b0 < wr.heap.size := Nat.lt_of_lt_of_le hb0 hW.out.size
      have H2 := (show Hid _ from And.intro hst (And.intro hPl (And.intro hQl (And.intro hO hBa))))
      clear hrow hl hf hps hlen hlx hfx hpk hst hsl hfl hO hBa hx hP hPl hQ hQl rO g0 g1 g2 g3 g4 g5 gf
      go_wp2_with fail
      refine wp_region_quiet_below mixed (by kernel_rfl) ?_
      iterate 4 go_big_quiet_step (fail)
      go_big_quiet_step (exact hquote _ _)
      iterate 3 go_big_quiet_step (fail)
      go_big_quiet_step (exact hprint _ _)
      go_big_quiet_step (fail)
      go_big_quiet_step (fail)
      refine wpQuiet_nil ?_
      rintro w5 ⟨⟨dq, osq⟩, hw5⟩
      have H8 := (show Hid _ from And.intro hw5 hw5)
      clear hw5 G0 G1 G2 G3 G4 G5 hprint hquote
      go_wp2_with fail
      go_roundg (xs.length - (k + 1))
      case measure => omega
      case rel =>
        obtain ⟨hst, hPl, hQl, hO, hBa⟩ := H2.out
        have hw5 := H8.out.1
        rw [← hO] at hw5
        have hb5 : Below (wr.alloc O).heap.size (wr.alloc O) w5 := by rw [hw5]; exact below_regrown _ dq osq
        refine ⟨k + 1, _, by omega, by omega, by go_num, rfl, ?_, (hW.out.trans (hBa.mono hW.out.size)).trans (hb5.mono (Nat.le_trans hW.out.size hBa.size))⟩
        show _ = _
        rw [hst]
        simp [hB.out, hPl, hQl, fieldL]
    · have zk : ¬ (k : Int) < (xs.length : Int) := by omega
      have htk : ps.take k = ps := List.take_of_length_le (by rw [hps]; simp; omega)
      have hBl : B.data.toList = 6 :: ps.flatMap (fieldL (putV (n + 1))) := by rw [hB.out, htk]
      have H2 := (show Hid _ from hBl)
      clear hrow hl hf hps hlen hBl htk
      go_wp2_with fail
      go_ret
      refine ⟨?_, hW.out⟩
      show Ending.returned (.string (B ++ ⟨#[0]⟩)) = _
      rw [← HR.out, kof_list (a := B ++ ⟨#[0]⟩) (l := 6 :: (ps.flatMap (fieldL (putV (n + 1))) ++ [0])) (by rw [kapp_list, H2.out]; rfl)]
end Go.Proofs.YtfpkkobclkdniaaGreatDoor
