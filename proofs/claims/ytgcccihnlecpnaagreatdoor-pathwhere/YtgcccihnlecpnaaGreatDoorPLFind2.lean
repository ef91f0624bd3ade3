/-
  The law's Find by its contract. Conditions: as stated (lists of at most ten values).
-/
import Derived.Test.YtgcccihnlecpnaaGreatDoorU10
namespace Go.Proofs.YtgcccihnlecpnaaGreatDoor
open Go.RowKit

set_option maxRecDepth 100000 in
set_option maxHeartbeats 4000000 in
theorem LFind_from (n : Nat) (ps : List ByteArray) (s : Value) (v : V) (l f : Value) (w0 w : World) (hB0 : Below w0.heap.size w0 w) (hs : StrsAt w s ps) (hL : Lies n w0 v l f) (hT : Ten ps.length v) :
    Calls Tryz.prog 11 #[.agg #[.int .i64 v.kind, .int .i64 v.num, .string v.text, l, f], s] w fun e w' => GotAns w0 w w' (findP v ps) e := by
  obtain ⟨a1, c1, a3, c3, rfl, rfl⟩ := Rep.slices hL
  obtain ⟨a, cap, rfl, hc1, hc2, hcells⟩ := hs
  obtain ⟨W2, hW2⟩ : ∃ W, (w.alloc (.cells #[.int .i64 v.kind, .int .i64 v.num, .string v.text, .slice a1 v.list.length c1, .slice a3 v.fields.length c3] 28)).alloc (.cells #[.int .i64 0, .int .i64 0, .string ⟨#[]⟩, .slice none 0 0, .slice none 0 0] 28) = W := ⟨_, rfl⟩
  have hB2 : Below w.heap.size w W2 := by rw [← hW2]; exact ((Below.refl _ _).alloc (Nat.le_refl _) _).alloc (by simp) _
  have r0 : W2.heap[w.heap.size]? = some (.cells #[.int .i64 v.kind, .int .i64 v.num, .string v.text, .slice a1 v.list.length c1, .slice a3 v.fields.length c3] 28) := by rw [← hW2]; exact heap_alloc2_old
  have r1 : W2.heap[w.heap.size + 1]? = some (.cells #[.int .i64 0, .int .i64 0, .string ⟨#[]⟩, .slice none 0 0, .slice none 0 0] 28) := by rw [← hW2]; exact heap_alloc2_new
  have HH := (show Hid _ from And.intro hL (And.intro hT (And.intro hcells (And.intro hB2 (And.intro r0 r1)))))
  clear hL hT hB2 r0 r1 hcells
  go_enter Tryz.func11, Tryz.ntmps11
  go_wp2
  go_loopg [7, 8, 9, 12] ps.length (fun gg _ _ _ i wr => ∃ (k m : Nat) (u : V) (al cl af cf : _), k ≤ ps.length ∧ ps.length - k ≤ gg ∧ i = .int .i64 k ∧ Aside (Below w.heap.size w wr ∧ Lies m w0 u (.slice al u.list.length cl) (.slice af u.fields.length cf) ∧ Ten (ps.length - k) u ∧ findP v ps = findP u (ps.drop k) ∧
    wr.heap[w.heap.size]? = some (.cells #[.int .i64 u.kind, .int .i64 u.num, .string u.text, .slice al u.list.length cl, .slice af u.fields.length cf] 28 (0, 0)) ∧ wr.heap[w.heap.size + 1]? = some (.cells #[.int .i64 0, .int .i64 0, .string ⟨#[]⟩, .slice none 0 0, .slice none 0 0] 28 (0, 0))))
  case atStart =>
    obtain ⟨hL, hT, hcells, hB2, r0, r1⟩ := HH.out
    exact ⟨0, n, v, _, _, _, _, Nat.zero_le _, by omega, rfl, hB2, hL, hT, rfl, r0, r1⟩
  case round =>
    obtain ⟨k, m, u, al, cl, af, cf, hk, hgg, rfl, A⟩ := hrel
    obtain ⟨hB, hLu, hTu, hF, q0, q1⟩ := A.out
    obtain ⟨x0, x1, x2, x3, x4, xf⟩ := row5 q0
    obtain ⟨y0, y1, y2, y3, y4, yf⟩ := row5 q1
    by_cases hlt : k < ps.length
    · obtain ⟨hL, hT, hcells, hB2, r0, r1⟩ := HH.out
      obtain ⟨p, hpk⟩ : ∃ p, ps[k]? = some p := ⟨_, List.getElem?_eq_getElem hlt⟩
      have hdrop : ps.drop k = p :: ps.drop (k + 1) := by
        rw [List.drop_eq_getElem_cons hlt, ← (List.getElem?_eq_some_iff.1 hpk).2]
      obtain ⟨ab, ao, rfl, hcell⟩ := hcells (fun e => by rw [e] at hlt; simp at hlt)
      have c0 := hcell k p hpk
      have c0' : wr.cell? ⟨ab, ao + k, none⟩ = some (.string p) := (hB.cell (lt_of_cell c0)).trans c0
      have zk : (k : Int) < (ps.length : Int) := by omega
      rw [show ps.length - k = (ps.length - (k + 1)) + 1 by omega] at hTu
      have hcall := at6_any m u _ _ p w0 wr (hB0.trans (hB.mono hB0.size)) hLu fun _ => hTu.1
      rw [hdrop] at hF
      have hlt0 := lt_of_heap q0
      have hlt1 := lt_of_heap q1
      have T := (show Hid _ from And.intro hTu hF)
      clear hL hT hcells hB2 r0 r1 hcell c0 hB hLu hTu hF q0 q1
      rcases hat : atP u p with _ | y
      · rw [hat] at hcall
        have hcall' : Calls Tryz.prog 20 #[.agg #[.int .i64 u.kind, .int .i64 u.num, .string u.text, .slice al u.list.length cl, .slice af u.fields.length cf], .string p] wr fun e w' => ∃ l' f' m', e = .returned (.tuple #[.agg #[.int .i64 0, .int .i64 0, .string ⟨#[]⟩, l', f'], .bool false]) ∧ Lies m' w0 zeroV l' f' ∧ Below wr.heap.size wr w' := hcall
        have hatH := (show Hid _ from hat)
        clear hat hcall
        go_wp2_with fail
        refine hcall'.mono ?_
        rintro e w3 ⟨l', f', m', rfl, hLx, hb3⟩
        obtain ⟨hB, hLu, -, -, q0, q1⟩ := A.out
        obtain ⟨z1, d1, z3, d3, e1, e2⟩ := Rep.slices hLx
        have e1' : l' = .slice z1 0 d1 := e1
        have e2' : f' = .slice z3 0 d3 := e2
        subst e1' e2'
        obtain ⟨W4, hW4⟩ : ∃ W, w3.alloc (.cells #[.int .i64 0, .int .i64 0, .string ⟨#[]⟩, .slice z1 0 d1, .slice z3 0 d3] 28) = W := ⟨_, rfl⟩
        have hB4 : Below wr.heap.size wr W4 := by rw [← hW4]; exact hb3.alloc hb3.size _
        have q14 := (hB4.block _ (lt_of_heap q1)).trans q1
        obtain ⟨t0, t1, t2, t3, t4, tf⟩ := row5 q14
        have hBw4 := hB.trans (hB4.mono hB.size)
        have U := (show Hid _ from hBw4)
        clear hB hLu q0 q1 hLx e1 e2 hB4 q14 hBw4 hb3 hcall' x0 x1 x2 x3 x4 xf y0 y1 y2 y3 y4 yf
        go_wp2
        refine bodyPost_ret (v := .tuple #[.agg #[.int .i64 0, .int .i64 0, .string ⟨#[]⟩, .slice none 0 0, .slice none 0 0], .bool false]) (by simp [results, Tryz.results11, go_sem, t0, t1, t2, t3, t4]) rfl ?_
        rw [T.out.2, find_cons_none hatH.out]
        exact ⟨_, _, 0, rfl, ⟨rfl, rfl, rfl, rfl⟩, set5W_below U.out (Nat.le_succ _) 0 1 2 3 4 _ _ _ _ _⟩
      · rw [hat] at hcall
        have hcall' : Calls Tryz.prog 20 #[.agg #[.int .i64 u.kind, .int .i64 u.num, .string u.text, .slice al u.list.length cl, .slice af u.fields.length cf], .string p] wr fun e w' => ∃ l' f' m', e = .returned (.tuple #[.agg #[.int .i64 y.kind, .int .i64 y.num, .string y.text, l', f'], .bool true]) ∧ Lies m' w0 y l' f' ∧ Below wr.heap.size wr w' := hcall
        have hatH := (show Hid _ from hat)
        clear hat hcall
        go_wp2_with fail
        refine hcall'.mono ?_
        rintro e w3 ⟨l', f', m', rfl, hLx, hb3⟩
        obtain ⟨hB, hLu, -, -, q0, q1⟩ := A.out
        obtain ⟨z1, d1, z3, d3, rfl, rfl⟩ := Rep.slices hLx
        obtain ⟨W4, hW4⟩ : ∃ W, w3.alloc (.cells #[.int .i64 y.kind, .int .i64 y.num, .string y.text, .slice z1 y.list.length d1, .slice z3 y.fields.length d3] 28) = W := ⟨_, rfl⟩
        have hB4 : Below wr.heap.size wr W4 := by rw [← hW4]; exact hb3.alloc hb3.size _
        have q04 := (hB4.block _ (lt_of_heap q0)).trans q0
        have q14 := (hB4.block _ (lt_of_heap q1)).trans q1
        have qn : W4.heap[w3.heap.size]? = some (.cells #[.int .i64 y.kind, .int .i64 y.num, .string y.text, .slice z1 y.list.length d1, .slice z3 y.fields.length d3] 28) := by rw [← hW4]; exact heap_alloc_new w3 _
        obtain ⟨t0, t1, t2, t3, t4, tf⟩ := row5 q04
        obtain ⟨k0, k1, k2, k3, k4, kf⟩ := row5 qn
        have hBw4 := hB.trans (hB4.mono hB.size)
        have U := (show Hid _ from And.intro hBw4 (And.intro q04 (And.intro q14 hLx)))
        clear hB hLu q0 q1 hLx hB4 q04 q14 qn hBw4 hb3 hcall' x0 x1 x2 x3 x4 xf y0 y1 y2 y3 y4 yf
        go_wp2
        go_roundg (ps.length - (k + 1))
        case measure => omega
        case rel =>
          obtain ⟨hBw4, q04, q14, hLx⟩ := U.out
          refine ⟨k + 1, m', y, z1, d1, z3, d3, by omega, by omega, by go_num, (show Aside _ from ⟨?_, hLx, ten_at T.out.1 hatH.out, T.out.2.trans (find_cons_some hatH.out), box_set q04 _ _ _ _ _, (set5W_ne _ _ _ _ _ _ _ _ _ _ _ _ (by omega)).trans q14⟩)⟩
          exact set5W_below hBw4 (Nat.le_refl _) 0 1 2 3 4 _ _ _ _ _
    · have zk : ¬ (k : Int) < (ps.length : Int) := by omega
      have hd : ps.drop k = [] := List.drop_of_length_le (by omega)
      rw [hd] at hF
      have T := (show Hid _ from And.intro hB (And.intro hLu hF))
      have hlt0 := lt_of_heap q0
      have hlt1 := lt_of_heap q1
      clear hB hLu hF hTu q0 q1
      go_wp2
      refine bodyPost_ret (v := .tuple #[.agg #[.int .i64 u.kind, .int .i64 u.num, .string u.text, .slice al u.list.length cl, .slice af u.fields.length cf], .bool true]) (by simp [results, Tryz.results11, go_sem, y0, y1, y2, y3, y4]) rfl ?_
      rw [T.out.2.2]
      exact ⟨_, _, m, rfl, T.out.2.1, set5W_below T.out.1 (Nat.le_succ _) 0 1 2 3 4 _ _ _ _ _⟩
end Go.Proofs.YtgcccihnlecpnaaGreatDoor
