/-
  The law's awake: true. Condition: the tables of package utf8 lie as they are laid.
-/
import Derived.Test.YtheijncppmndoaaDoorVAwake
namespace Go.Proofs.YtheijncppmndoaaDoor
open Go.RowKit

def exInt (m : Int) : V := ⟨2, m, ⟨#[]⟩, [], []⟩
def exObj (m : Int) : V := ⟨5, 0, ⟨#[]⟩, [], [(⟨#[97]⟩, exInt m)]⟩
def exList : V := ⟨4, 0, ⟨#[]⟩, [exInt 5], []⟩

theorem ex_where (m : Int) : whereI (isName ⟨#[97]⟩) (exObj m).fields = ((0 : Nat) : Int) := by
  have h : isName ⟨#[97]⟩ ((⟨#[97]⟩ : ByteArray), exInt m) = true := decide_eq_true (good_cmpT.refl _)
  simp [exObj, whereI, h]
theorem ex_cmp : cmpV 4 (exObj 1) (exObj 2) = -1 := by
  have h := good_cmpT.refl (⟨#[97]⟩ : ByteArray)
  simp [cmpV, exObj, exInt, cmpL, cmpF, h, cmpI]
theorem ex_cmp2 : cmpV 4 exList (exObj 1) = -1 := by
  simp [cmpV, exObj, exList, exInt, cmpI]
theorem ex_depth : depthV 2 (exObj 1) = 2 := by
  simp [depthV, exObj, exInt, maxI]
  rfl
theorem ex_size : sizeV 2 (exObj 1) = 3 := by
  simp [sizeV, exObj, exInt, sumL]
  decide
theorem ex_lies {W : World} {B : Nat} {m : Int} (hr : W.heap[B]? = some (.cells #[.string ⟨#[97]⟩, .int .i64 2, .int .i64 m, .string ⟨#[]⟩, .slice none 0 0, .slice none 0 0] 35 (0, 0))) : Lies 1 W (exObj m) (.slice none 0 0) (.slice (some ⟨B, 0, none⟩) 1 1) :=
  ⟨⟨[], rfl, RowAt.nil, fun e he => (by cases he)⟩, ⟨[⟨⟨#[97]⟩, exInt m, .slice none 0 0, .slice none 0 0⟩], rfl, ⟨⟨rfl, .inr ⟨B, 1, _, rfl, Nat.zero_le _, hr, Nat.le_refl _, by decide, rfl, rfl⟩⟩, by simp, fun _ _ => trivial⟩, fun e he => (by rw [List.mem_singleton.1 he]; exact ⟨rfl, rfl, rfl, rfl⟩)⟩⟩
theorem ex_lies_list {W : World} {B : Nat} (hr : W.heap[B]? = some (.cells #[.int .i64 2, .int .i64 5, .string ⟨#[]⟩, .slice none 0 0, .slice none 0 0] 28 (0, 0))) : Lies 1 W exList (.slice (some ⟨B, 0, none⟩) 1 1) (.slice none 0 0) :=
  ⟨⟨[⟨exInt 5, .slice none 0 0, .slice none 0 0⟩], rfl, ⟨⟨rfl, .inr ⟨B, 1, _, rfl, Nat.zero_le _, hr, Nat.le_refl _, by decide, rfl, rfl⟩⟩, by simp, fun _ _ => trivial⟩, fun e he => (by rw [List.mem_singleton.1 he]; exact ⟨rfl, rfl, rfl, rfl⟩)⟩, ⟨[], rfl, RowAt.nil, fun e he => (by cases he)⟩⟩

set_option maxHeartbeats 2000000 in
theorem awake_true (w : World) (hU : U8 w) : Calls Tryd.prog 9 #[] w fun e w' => e = .returned (.bool true) ∧ Below w.heap.size w w' := by
  have hB : ∀ (o1 o2 : Obj), Below w.heap.size w ((w.alloc o1).alloc o2) := fun o1 o2 => ((Below.refl _ _).alloc (Nat.le_refl _) _).alloc (by simp) _
  have hset : ∀ W, W.heap[w.heap.size]? = some (.cells #[.string ⟨#[97]⟩, .int .i64 2, .int .i64 1, .string ⟨#[]⟩, .slice none 0 0, .slice none 0 0] 35 (0, 0)) → Calls Tryd.prog 17 #[.agg #[.int .i64 5, .int .i64 0, .string ⟨#[]⟩, .slice none 0 0, .slice (some ⟨w.heap.size, 0, none⟩) 1 1], .string ⟨#[97]⟩, .agg #[.int .i64 2, .int .i64 2, .string ⟨#[]⟩, .slice none 0 0, .slice none 0 0]] W
      fun r w' => ∃ l' f', r = .returned (.agg #[.int .i64 5, .int .i64 0, .string ⟨#[]⟩, l', f']) ∧ GotV 3 W w' (exObj 2) l' f' := fun W hr =>
    Set_there 1 (exObj 1) (exInt 2) _ _ _ _ ⟨#[97]⟩ W (ex_lies hr) (Rep.up ⟨rfl, rfl, rfl, rfl⟩) rfl 0 ⟨#[97]⟩ (exInt 1) (ex_where 1) rfl
  go_enter Tryd.func9, Tryd.ntmps9
  go_wp2_with fail
  refine (hset _ heap_alloc2_old).mono ?_
  rintro e w1 ⟨l', f', rfl, hrep, hb1⟩
  obtain ⟨al', cl', af', cf', rfl, rfl⟩ := hrep.slices
  have f1 := (hb1.block w.heap.size (by simp; omega)).trans heap_alloc2_old
  have a1 := (hb1.block (w.heap.size + 1) (by simp)).trans heap_alloc2_new
  obtain ⟨k0, k1, k2, k3, k4, kf⟩ := row5 a1
  have hz1 : w.heap.size + 1 < w1.heap.size := lt_of_heap a1
  have hza : w.heap.size < w1.heap.size := by omega
  have hzb : w.heap.size < w1.heap.size + 1 := by omega
  have hzc : w.heap.size + 1 < w1.heap.size + 1 := by omega
  have hB1 : Below w.heap.size w w1 := (hB _ _).trans (hb1.mono (hB _ _).size)
  -- three blocks more
  obtain ⟨O1, hO1⟩ : ∃ O, O = Obj.cells #[.int .i64 5, .int .i64 0, .string ⟨#[]⟩, .slice al' (exObj 2).list.length cl', .slice af' (exObj 2).fields.length cf'] 28 := ⟨_, rfl⟩
  obtain ⟨O2, hO2⟩ : ∃ O, O = Obj.cells #[.int .i64 2, .int .i64 5, .string ⟨#[]⟩, .slice none 0 0, .slice none 0 0] 28 := ⟨_, rfl⟩
  obtain ⟨O3, hO3⟩ : ∃ O, O = Obj.cells #[.int .i64 4, .int .i64 0, .string ⟨#[]⟩, .slice (some ⟨w1.heap.size + 1, 0, none⟩) 1 1, .slice none 0 0] 28 := ⟨_, rfl⟩
  have hb13 : Below w1.heap.size w1 (((w1.alloc O1).alloc O2).alloc O3) := (((Below.refl _ _).alloc (Nat.le_refl _) _).alloc (by simp) _).alloc (by simp; omega) _
  have S : Hid (∀ W, Below (((w1.alloc O1).alloc O2).alloc O3).heap.size (((w1.alloc O1).alloc O2).alloc O3) W → Below w.heap.size w W ∧ W.heap[w.heap.size]? = some (.cells #[.string ⟨#[97]⟩, .int .i64 2, .int .i64 1, .string ⟨#[]⟩, .slice none 0 0, .slice none 0 0] 35 (0, 0)) ∧ W.heap[w.heap.size + 1]? = some (.cells #[.int .i64 5, .int .i64 0, .string ⟨#[]⟩, .slice none 0 0, .slice (some ⟨w.heap.size, 0, none⟩) 1 1] 28 (0, 0)) ∧ W.heap[w1.heap.size]? = some O1 ∧ W.heap[w1.heap.size + 1]? = some O2 ∧ W.heap[w1.heap.size + 2]? = some O3 ∧ Lies 3 W (exObj 2) (.slice al' (exObj 2).list.length cl') (.slice af' (exObj 2).fields.length cf')) := by
    intro W hW
    have h1W : Below w1.heap.size w1 W := hb13.trans (hW.mono hb13.size)
    exact ⟨hB1.trans (h1W.mono hB1.size), row_below h1W f1, row_below h1W a1, row_below hW heap_alloc3_0, row_below hW heap_alloc3_1, row_below hW heap_alloc3_2, (Rep.lies hrep).below h1W⟩
  clear hrep hb1 f1 a1 hset hb13
  have hW0 := S.out _ (Below.refl _ _)
  obtain ⟨hBW, rf, ra, ro1, ro2, ro3, hl2⟩ := hW0
  rw [hO1, hO2, hO3] at S hBW rf ra ro1 ro2 ro3 hl2
  have hval := Valid_obj w.heap.size _ (hU.below hBW) rf
  clear hBW rf ra ro1 ro2 ro3 hl2 hO1 hO2 hO3
  simp only [exObj, List.length_nil, List.length_cons, Nat.zero_add] at hval S ⊢
  go_wp2_with fail
  refine hval.mono ?_
  rintro e w2 ⟨rfl, hb2⟩
  obtain ⟨hBW, rf, ra, ro1, ro2, ro3, hl2⟩ := S.out w2 hb2
  obtain ⟨p0, p1, p2, p3, p4, pf⟩ := row5 ra
  obtain ⟨q0, q1, q2, q3, q4, qf⟩ := row5 ro1
  have hc1 := VCmp_any 3 (exObj 1) (exObj 2) _ _ _ _ w2 (Rep.le (ex_lies rf) (by omega)) hl2
  rw [ex_cmp] at hc1
  simp only [exObj] at hc1
  have T2 := (show Hid _ from hb2)
  clear hval hBW rf ra ro1 ro2 ro3 hl2 hb2
  go_wp2_with fail
  refine hc1.mono ?_
  rintro e w3 ⟨rfl, hb3⟩
  have hb13 := T2.out.trans (hb3.mono T2.out.size)
  obtain ⟨hBW, rf, ra, ro1, ro2, ro3, hl2⟩ := S.out w3 hb13
  obtain ⟨u0, u1, u2, u3, u4, uf⟩ := row5 ra
  obtain ⟨v0, v1, v2, v3, v4, vf⟩ := row5 ro3
  have hc2 := VCmp_any 3 exList (exObj 1) _ _ _ _ w3 (Rep.le (ex_lies_list ro2) (by omega)) (Rep.le (ex_lies rf) (by omega))
  rw [ex_cmp2] at hc2
  simp only [exObj, exList] at hc2
  have T3 := (show Hid _ from hb13)
  clear hc1 hBW rf ra ro1 ro2 ro3 hl2 hb3 hb13 p0 p1 p2 p3 p4 pf q0 q1 q2 q3 q4 qf
  go_wp2_with fail
  refine hc2.mono ?_
  rintro e w4 ⟨rfl, hb4⟩
  have hb14 := T3.out.trans (hb4.mono T3.out.size)
  obtain ⟨hBW, rf, ra, ro1, ro2, ro3, hl2⟩ := S.out w4 hb14
  obtain ⟨x0, x1, x2, x3, x4, xf⟩ := row5 ra
  have hd := Depth_any 1 (by omega) (exObj 1) _ _ w4 (ex_lies rf)
  rw [ex_depth] at hd
  simp only [exObj] at hd
  have T4 := (show Hid _ from hb14)
  clear hc2 hBW rf ra ro1 ro2 ro3 hl2 hb4 hb14 u0 u1 u2 u3 u4 uf v0 v1 v2 v3 v4 vf
  go_wp2_with fail
  refine hd.mono ?_
  rintro e w5 ⟨rfl, hb5⟩
  have hb15 := T4.out.trans (hb5.mono T4.out.size)
  obtain ⟨hBW, rf, ra, ro1, ro2, ro3, hl2⟩ := S.out w5 hb15
  obtain ⟨y0, y1, y2, y3, y4, yf⟩ := row5 ra
  have hs := Size_any 1 (exObj 1) _ _ w5 (ex_lies rf) (by rw [ex_size]; decide)
  rw [ex_size] at hs
  simp only [exObj] at hs
  have T5 := (show Hid _ from hb15)
  clear hd hBW rf ra ro1 ro2 ro3 hl2 hb5 hb15 x0 x1 x2 x3 x4 xf
  go_wp2_with fail
  refine hs.mono ?_
  rintro e w6 ⟨rfl, hb6⟩
  have hb16 := T5.out.trans (hb6.mono T5.out.size)
  have hfin := (S.out w6 hb16).1
  clear hb6 hb16 hs
  go_wp2
  go_ret
  exact ⟨rfl, hfin⟩
end Go.Proofs.YtheijncppmndoaaDoor
