/-
  package value's Set of a field that is not there: what it hands back is apart. Condition: there is room for one more field (fewer than a million).
  package twin's list, whose copies are apart from one another. No conditions beyond those stated.
  package twin's fields, whose copies are apart from one another. No conditions beyond those stated.
-/
import Derived.Test.YtgcccihnlecpnaaGreatDoorU11
import Derived.Test.YtgcccihnlecpnaaGreatDoorU6
namespace Go.Proofs.YtgcccihnlecpnaaGreatDoor
open Go.RowKit

/-- what Set hands back when the field is new: the new field's value, all else, and the fields' row lie apart from one another, in new memory. -/
def SetV (n : Nat) (w w' : World) (v : V) (name : ByteArray) (x : V) (l' f' : Value) : Prop :=
  ∃ (ok1 ok2 : Nat → Prop) (G j : Nat) (es : List El) (fs : List Fl) (lx fx : Value), es.map El.v = v.list ∧ fs.map Fl.pair = v.fields ∧ aboveI name v.fields = (j : Nat) ∧ j ≤ v.fields.length ∧
    RowAt ok1 w' 28 5 l' es.length (encEs es) ∧ (∀ e ∈ es, Rep ok1 n w' e.v e.l e.f) ∧
    RowAt (fun k => k = G) w' 44 6 f' (fs.length + 1) (encFs (fs.take j ++ ⟨name, x, lx, fx⟩ :: fs.drop j)) ∧ (∀ e ∈ fs, Rep ok1 n w' e.v e.l e.f) ∧ Rep ok2 (n + 1) w' x lx fx ∧
    (∀ b, ok1 b → w.heap.size ≤ b ∧ b ≠ G ∧ ¬ ok2 b) ∧ (∀ b, ok2 b → w.heap.size ≤ b ∧ b ≠ G) ∧ w.heap.size ≤ G

theorem set_new_own {n : Nat} {v x : V} {w w1 w2 w3 w6 : World} {B jn z G : Nat} {name : ByteArray} {es : List El} {fs : List Fl} {l lx fx v' a0 a1 a2 a3 a4 : Value}
    (e2 : RowAt (fun k => z ≤ k ∧ k ≠ B) w1 28 5 l es.length (encEs es)) (e3 : ∀ e ∈ es, Rep (fun k => z ≤ k ∧ k ≠ B) n w1 e.v e.l e.f) (f4 : ∀ e ∈ fs, Rep (fun k => z ≤ k ∧ k ≠ B) n w1 e.v e.l e.f)
    (hrx : Rep (fun k => w2.heap.size ≤ k) (n + 1) w3 x lx fx) (hb16 : Below w1.heap.size w1 w6) (hb36 : Below w3.heap.size w3 w6) (row : RowAt (fun k => k = G) w6 44 6 v' (fs.length + 1) (encFs (fs.take jn ++ ⟨name, x, lx, fx⟩ :: fs.drop jn)))
    (e1 : es.map El.v = v.list) (f1 : fs.map Fl.pair = v.fields) (hj : jn ≤ v.fields.length) (hins : aboveI name v.fields = (jn : Nat)) (zw2 : w1.heap.size < w2.heap.size) (zw3 : w1.heap.size < w3.heap.size) (hG : w3.heap.size ≤ G) (hz1 : w.heap.size + 2 < w1.heap.size) (hzz : w.heap.size + 3 ≤ z := by simp) :
    SetV n w (set5W (w6.setCell ⟨w1.heap.size, 4, none⟩ v') (w.heap.size + 1 + 1) 0 1 2 3 4 a0 a1 a2 a3 a4) v name x l v' := by
  generalize hW : set5W (w6.setCell ⟨w1.heap.size, 4, none⟩ v') (w.heap.size + 1 + 1) 0 1 2 3 4 a0 a1 a2 a3 a4 = W
  have n5 : ∀ b, b ≠ w1.heap.size → b ≠ w.heap.size + 1 + 1 → W.heap[b]? = w6.heap[b]? := fun b h1 h2 => by rw [← hW, set5W_ne _ _ _ _ _ _ _ _ _ _ _ _ h2, heap_setCell_ne _ _ _ h1]
  have old : ∀ b, (z ≤ b ∧ b ≠ B) → b < w1.heap.size → W.heap[b]? = w1.heap[b]? := fun b h1 h2 => by rw [n5 b (by omega) (by omega), hb16.block b h2]
  refine ⟨fun k => (z ≤ k ∧ k ≠ B) ∧ k < w1.heap.size, fun k => w2.heap.size ≤ k ∧ k < w3.heap.size, G, jn, es, fs, lx, fx, e1, f1, hins, hj, e2.move fun b h1 h2 => ⟨⟨h1, h2⟩, old b h1 h2⟩, fun e he => (e3 e he).move fun b h1 h2 => ⟨⟨h1, h2⟩, old b h1 h2⟩, ?_, fun e he => (f4 e he).move fun b h1 h2 => ⟨⟨h1, h2⟩, old b h1 h2⟩, hrx.move fun b h1 h2 => ⟨⟨h1, h2⟩, ?_⟩, fun b hb => ?_, fun b hb => ?_, ?_⟩
  · exact row.move fun b h1 h2 => ⟨h1, n5 b (by omega) (by omega)⟩
  · rw [n5 b (by omega) (by omega), hb36.block b h2]
  · exact ⟨by omega, by omega, by omega⟩
  · exact ⟨by omega, by omega⟩
  · omega

attribute [local go_sem ↓] Go.wp_at_zero Go.wp_at_succ
set_option maxRecDepth 100000 in
set_option maxHeartbeats 8000000 in
theorem Set_new_own (n : Nat) (v x : V) (l f xl xf : Value) (name : ByteArray) (w : World) (hv : Lies n w v l f) (hx : Lies n w x xl xf) (hk : v.kind = 5) (hj : whereI (isName name) v.fields = -1) (hn : v.fields.length < 1000000) :
    Calls Tryz.prog 39 #[.agg #[.int .i64 v.kind, .int .i64 v.num, .string v.text, l, f], .string name, .agg #[.int .i64 x.kind, .int .i64 x.num, .string x.text, xl, xf]] w fun r w' => ∃ l' f', r = .returned (.agg #[.int .i64 v.kind, .int .i64 v.num, .string v.text, l', f']) ∧ SetV n w w' v name x l' f' ∧ Below w.heap.size w w' := by
  have hB : ∀ (o1 o2 o3 : Obj), Below w.heap.size w (((w.alloc o1).alloc o2).alloc o3) := fun o1 o2 o3 => (((Below.refl _ _).alloc (Nat.le_refl _) _).alloc (by simp) _).alloc (by simp; omega) _
  have hcall := fun W (hW : Below w.heap.size w W) => twinValue_any n v l f W (hv.below hW)
  have hcallx := fun W (hW : Below w.heap.size w W) => twinValue_any n x xl xf W (hx.below hW)
  have hplace := fun W (hW : Below w.heap.size w W) => place_any n v l f name W (Rep.up (hv.below hW))
  simp only [hk, if_true, hj] at hplace
  obtain ⟨jn, hjn1, hjn2, hjn3⟩ := where_above name x v.fields
  have habove : ∀ W, Below w.heap.size w W → Calls Tryz.prog 57 #[f, .string name] W fun e w' => e = .returned (.int .i64 (jn : Int)) ∧ Below W.heap.size W w' := by
    intro W hW
    obtain ⟨-, ⟨fs0, f1, f2, f3⟩⟩ := Rep.up (hv.below hW)
    rw [← hjn1, ← f1]
    exact above_any n fs0 f name W f2 f3
  obtain ⟨a1, c1, a3, c3, rfl, rfl⟩ := Rep.slices hv
  obtain ⟨a5, c5, a7, c7, rfl, rfl⟩ := Rep.slices hx
  rw [hk] at hcall ⊢
  clear hv hx hj
  go_enter Tryz.func39, Tryz.ntmps39
  go_wp2_with fail
  refine (hcall _ (hB _ _ _)).mono ?_
  rintro e w1 ⟨l', f', rfl, hcp, hb1⟩
  have hrep := hcp.rep
  obtain ⟨al', cl', af', cf', rfl, rfl⟩ := hrep.slices
  obtain ⟨B, hBB, ⟨es, e1, e2, e3⟩, ⟨fs, f1, f2, f3, f4⟩⟩ := hcp
  have hfl : fs.length = v.fields.length := by rw [← f1, List.length_map]
  rw [hfl] at f2
  have hrow : (Value.slice af' v.fields.length cf' = .slice none 0 0 ∧ fs = []) ∨ (Value.slice af' v.fields.length cf' = .slice (some ⟨B, 0, none⟩) fs.length fs.length ∧ ∃ cur, w1.heap[B]? = some (.cells cur 44 (0, 0)) ∧ cur.toList = encFs fs) := by
    by_cases h0 : Value.slice af' v.fields.length cf' = .slice none 0 0
    · left
      refine ⟨h0, ?_⟩
      simp only [Value.slice.injEq] at h0
      exact List.length_eq_zero_iff.1 (by omega)
    · right
      obtain ⟨h1, h2⟩ := f2.full f3 (.inr h0)
      exact ⟨by rw [h1, hfl], h2⟩
  have hone : ∀ u ∈ encFs fs, u.oneCell' = true := encFs_one fun e he => (f4 e he).shape
  have p1 := row_below hb1 heap_alloc3_0
  have r1 := row_below hb1 heap_alloc3_1
  have q1 := row_below hb1 heap_alloc3_2
  obtain ⟨k0, k1, k2, k3, k4, kf⟩ := row5 p1
  have hz1 : w.heap.size + 2 < w1.heap.size := lt_of_heap q1
  have hz2 : w.heap.size < w1.heap.size := lt_of_heap p1
  have hB1 : Below w.heap.size w w1 := (hB _ _ _).trans (hb1.mono (hB _ _ _).size)
  have hB1a : ∀ o, Below w.heap.size w (w1.alloc o) := fun o => hB1.alloc (by omega) _
  have S := (show Hid _ from And.intro hb1 (And.intro e2 (And.intro e3 (And.intro f4 (And.intro hrow (And.intro p1 (And.intro r1 q1)))))))
  clear hrep hb1 e2 e3 f2 f3 f4 hrow p1 r1 q1
  go_wp2_with fail
  refine (hplace _ (hB1a _)).mono ?_
  rintro e w2 ⟨rfl, hb2⟩
  obtain ⟨hb1, e2, e3, f4, hrow, p1, r1, q1⟩ := S.out
  have hl1 : ∀ (o : Obj) (b : Nat), b < w1.heap.size → (w1.alloc o).heap[b]? = w1.heap[b]? := fun o b h => Below.heap_alloc w1 o b h
  have g2 := row_below hb2 (heap_alloc_new w1 _)
  have p2 := row_below hb2 ((hl1 _ _ (lt_of_heap p1)).trans p1)
  have r2 := row_below hb2 ((hl1 _ _ (lt_of_heap r1)).trans r1)
  have q2 := row_below hb2 ((hl1 _ _ (lt_of_heap q1)).trans q1)
  obtain ⟨x0, x1, x2, x3, x4, xfz⟩ := row5 r2
  have hB2 : Below w.heap.size w w2 := (hB1a _).trans (hb2.mono (hB1a _).size)
  have zw2 : w1.heap.size < w2.heap.size := lt_of_heap g2
  have T := (show Hid _ from And.intro hb2 (And.intro g2 (And.intro p2 q2)))
  clear hb1 e2 e3 f4 hrow p1 r1 q1 hb2 g2 r2 q2 p2 k0 k1 k2 k3 k4 kf
  go_wp2_with fail
  refine (hcallx _ hB2).mono ?_
  rintro e w3 ⟨lx, fx, rfl, hcx, hb3⟩
  have hrx := hcx.rep
  obtain ⟨bl, dl, bf, df, rfl, rfl⟩ := hrx.slices
  obtain ⟨hb2, g2, p2, q2⟩ := T.out
  have g3 := row_below hb3 g2
  have p3 := row_below hb3 p2
  have q3 := row_below hb3 q2
  obtain ⟨y0, y1, y2, y3, y4, yfz⟩ := row5 g3
  obtain ⟨s0, s1, s2, s3, s4, sfz⟩ := row5 p3
  have zw3 : w1.heap.size < w3.heap.size := lt_of_heap g3
  have zw4 : w.heap.size < w3.heap.size := lt_of_heap p3
  have hB3 : Below w.heap.size w w3 := hB2.trans (hb3.mono hB2.size)
  have U := (show Hid _ from And.intro hrx (And.intro hb3 (And.intro g3 (And.intro p3 q3))))
  clear hcx hrx hb2 g2 p2 q2 hb3 g3 p3 q3 x0 x1 x2 x3 x4 xfz
  go_wp2_with fail
  generalize hW4 : w3.alloc (.cells #[.string name, .int .i64 x.kind, .int .i64 x.num, .string x.text, .slice bl x.list.length dl, .slice bf x.fields.length df] 44) = W4
  have hb34 : Below w3.heap.size w3 W4 := by rw [← hW4]; exact (Below.refl _ _).alloc (Nat.le_refl _) _
  have hs4 : W4.heap.size = w3.heap.size + 1 := by rw [← hW4]; simp
  have hB4 : Below w.heap.size w W4 := hB3.trans (hb34.mono (by omega))
  have hb14 : Below w1.heap.size w1 W4 := by
    have h2 : Below w1.heap.size w1 w2 := ((Below.refl _ _).alloc (Nat.le_refl _) _).trans (T.out.1.mono (by simp))
    have h3 : Below w1.heap.size w1 w3 := h2.trans (U.out.2.1.mono (by omega))
    exact h3.trans (hb34.mono (by omega))
  have t4 : W4.heap[w3.heap.size]? = some (.cells #[.string name, .int .i64 x.kind, .int .i64 x.num, .string x.text, .slice bl x.list.length dl, .slice bf x.fields.length df] 44) := by rw [← hW4]; exact heap_alloc_new w3 _
  have g4 := row_below hb34 U.out.2.2.1
  have p4 := row_below hb34 U.out.2.2.2.1
  have q4 := row_below hb34 U.out.2.2.2.2
  obtain ⟨y0', y1', y2', y3', y4', yfz'⟩ := row5 g4
  obtain ⟨s0', s1', s2', s3', s4', sfz'⟩ := row5 p4
  obtain ⟨t0', t1', t2', t3', t4', t5', tfz'⟩ := row6 t4
  have hIns : ∀ W Bv, Below W4.heap.size W4 W → (∀ i u, (Fl.enc ⟨name, x, .slice bl x.list.length dl, .slice bf x.fields.length df⟩)[i]? = some u → W.cell? ⟨Bv, i, none⟩ = some u) → Calls Tryz.prog 56 #[.slice af' v.fields.length cf', .int .i64 (jn : Int), .slice (some ⟨Bv, 0, none⟩) 1 1] W
      fun e w' => ∃ v', e = .returned v' ∧ RowAt (fun k => k = W.heap.size) w' 44 6 v' (fs.length + 1) (encFs (fs.take jn ++ ⟨name, x, .slice bl x.list.length dl, .slice bf x.fields.length df⟩ :: fs.drop jn)) ∧ Below W.heap.size W w' := by
    intro W Bv hW hcells
    refine Insert_any fs _ B Bv jn _ W ?_ hone ?_ (by omega) (by omega) hcells
    · rcases S.out.2.2.2.2.1 with h | ⟨h1, cur, h2, h3⟩
      · exact .inl h
      · exact .inr ⟨h1, cur, row_below hW (row_below hb14 h2), h3⟩
    · intro u hu
      simp only [Fl.enc, List.mem_cons, List.not_mem_nil, or_false] at hu
      rcases hu with rfl | rfl | rfl | rfl | rfl | rfl <;> rfl
  clear y0 y1 y2 y3 y4 yfz s0 s1 s2 s3 s4 sfz hone
  have V4 := (show Hid _ from And.intro hb34 (And.intro hb14 (And.intro g4 (And.intro q4 t4))))
  have HW := (show Hid _ from hW4)
  have HH := (show Hid _ from And.intro hBB (And.intro e1 (And.intro f1 (And.intro hfl (And.intro hjn2 (And.intro hjn1 (And.intro hz1 (And.intro zw2 (And.intro zw3 hs4)))))))))
  clear g4 p4 q4 t4 hb34 hb14 hW4 hcall hcallx hplace hjn1 hjn2 hjn3 hk hn hBB e1 f1 hfl hz1 hz2 hB hB1 hB1a hB2 hB3 hl1 zw2 zw3 zw4 hs4 y0' y1' y2' y3' yfz' s0' s1' s2' s3' sfz' tfz'
  have z41 : w1.heap.size < W4.heap.size := by have := HH.out.2.2.2.2.2.2.2.2; omega
  have z42 : w.heap.size < W4.heap.size := by have := HH.out.2.2.2.2.2.2; have := hB4.size; omega
  have z43 : w3.heap.size < W4.heap.size := by have := HH.out.2.2.2.2.2.2.2.2; omega
  have Y4 := fun w' (h : Below W4.heap.size W4 w') => (h.cell (lt_of_cell y4')).trans y4'
  have S4 := fun w' (h : Below W4.heap.size W4 w') => (h.cell (lt_of_cell s4')).trans s4'
  have T0 := fun w' (h : Below W4.heap.size W4 w') => (h.cell (lt_of_cell t0')).trans t0'
  have T1 := fun w' (h : Below W4.heap.size W4 w') => (h.cell (lt_of_cell t1')).trans t1'
  have T2 := fun w' (h : Below W4.heap.size W4 w') => (h.cell (lt_of_cell t2')).trans t2'
  have T3 := fun w' (h : Below W4.heap.size W4 w') => (h.cell (lt_of_cell t3')).trans t3'
  have T4 := fun w' (h : Below W4.heap.size W4 w') => (h.cell (lt_of_cell t4')).trans t4'
  have T5 := fun w' (h : Below W4.heap.size W4 w') => (h.cell (lt_of_cell t5')).trans t5'
  clear y4' s4' t0' t1' t2' t3' t4' t5'
  have h0 : (fun w' => Below W4.heap.size W4 w') W4.drew := (Below.refl _ _).drew
  refine wp_region_snoc_held (S := fun w' => Below W4.heap.size W4 w') (head := #[_, _, _, _, _, _, _, _, _, _]) (last := ⟨_, _, _, _, _, _⟩) mixed (by kernel_rfl) rfl ?_
  refine wpAnyH_take (i := 0) (oi := ⟨_, _, _, _, _, _⟩) (v := ?v0) rfl (by kernel_rfl) (by kernel_rfl) (by kernel_rfl) (fun _ _ _ h => h) (Or.inl ⟨by rfl, ?hy0⟩) h0 ?rest0
  case hy0 => (intro w hSw; (try dsimp only at hSw); go_simp; try with_reducible rfl)
  simp only [Act.put, List.setIfInBounds_toArray, List.set_cons_zero, List.set_cons_succ]
  refine wpAnyH_take (i := 1) (oi := ⟨_, _, _, _, _, _⟩) (v := ?v1) rfl (by kernel_rfl) (by kernel_rfl) (by kernel_rfl) (fun _ _ _ h => h) (Or.inl ⟨by rfl, ?hy1⟩) h0 ?rest1
  case hy1 => (intro w hSw; (try dsimp only at hSw); go_simp; try with_reducible rfl)
  simp only [Act.put, List.setIfInBounds_toArray, List.set_cons_zero, List.set_cons_succ]
  refine wpAnyH_take (i := 2) (oi := ⟨_, _, _, _, _, _⟩) (v := ?v2) rfl (by kernel_rfl) (by kernel_rfl) (by kernel_rfl) (fun _ _ _ h => h) (Or.inl ⟨by rfl, ?hy2⟩) h0 ?rest2
  case hy2 => (intro w hSw; (try dsimp only at hSw); go_simp; try with_reducible rfl)
  simp only [Act.put, List.setIfInBounds_toArray, List.set_cons_zero, List.set_cons_succ]
  refine wpAnyH_take (i := 3) (oi := ⟨_, _, _, _, _, _⟩) (v := ?v3) rfl (by kernel_rfl) (by kernel_rfl) (by kernel_rfl) (fun _ _ _ h => h) (Or.inl ⟨by rfl, ?hy3⟩) h0 ?rest3
  case hy3 => (intro w hSw; (try dsimp only at hSw); go_simp; try with_reducible rfl)
  simp only [Act.put, List.setIfInBounds_toArray, List.set_cons_zero, List.set_cons_succ]
  refine wpAnyH_take (i := 4) (oi := ⟨_, _, _, _, _, _⟩) (v := ?v4) rfl (by kernel_rfl) (by kernel_rfl) (by kernel_rfl) (fun _ _ _ h => h) (Or.inl ⟨by rfl, ?hy4⟩) h0 ?rest4
  case hy4 => (intro w hSw; (try dsimp only at hSw); go_simp; try with_reducible rfl)
  simp only [Act.put, List.setIfInBounds_toArray, List.set_cons_zero, List.set_cons_succ]
  refine wpAnyH_take (i := 6) (oi := ⟨_, _, _, _, _, _⟩) (v := ?v6) rfl (by kernel_rfl) (by kernel_rfl) (by kernel_rfl) (fun _ _ _ h => h) (Or.inl ⟨by rfl, ?hy6⟩) h0 ?rest6
  case hy6 => (intro w hSw; (try dsimp only at hSw); go_simp; try with_reducible rfl)
  simp only [Act.put, List.setIfInBounds_toArray, List.set_cons_zero, List.set_cons_succ]
  refine wpAnyH_ready (rs := [5, 7]) (by kernel_rfl) (by simp) ?_
  refine AllReadyH.cons (o := ⟨_, _, _, _, _, _⟩) rfl (fun K hK => ?_) (AllReadyH.cons (o := ⟨_, _, _, _, _, _⟩) rfl (fun K hK => ?_) AllReadyH.nil)
  · go_simp
    refine (habove _ hB4.drew).mono ?_
    rintro e w5 ⟨rfl, hb5⟩
    have h5 : Below W4.heap.size W4 w5 := below_of_drew hb5
    refine hK.out _ _ h5 (fun hHeld => ?_)
    clear hK K hHeld hb5
    try simp only [Act.put, List.setIfInBounds_toArray, List.set_cons_zero, List.set_cons_succ]
    refine wpAnyH_ready (rs := [7]) (by kernel_rfl) (by simp) ?_
    refine AllReadyH.cons (o := ⟨_, _, _, _, _, _⟩) rfl (fun K hK => ?_) AllReadyH.nil
    go_simp
    have h6 : ∀ o, Below W4.heap.size W4 (w5.alloc o) := fun o => h5.alloc h5.size o
    refine hK.out _ _ (h6 _) (fun hHeld => ?_)
    clear hK K hHeld
    try simp only [Act.put, List.setIfInBounds_toArray, List.set_cons_zero, List.set_cons_succ]
    refine wpAnyH_ready (rs := [8]) (by kernel_rfl) (by simp) ?_
    refine AllReadyH.cons (o := ⟨_, _, _, _, _, _⟩) rfl (fun K hK => ?_) AllReadyH.nil
    go_simp
    refine (hIns _ _ (h6 _) (enc_cells (heap_alloc_new w5 _))).mono ?_
    rintro e w6 ⟨v', rfl, hr6, hb6⟩
    obtain ⟨av, cv, rfl⟩ := hr6.slice
    have h7 : Below W4.heap.size W4 w6 := (h6 _).trans (hb6.mono (h6 _).size)
    refine hK.out _ _ h7 (fun hHeld => ?_)
    clear hK K hHeld
    try simp only [Act.put, List.setIfInBounds_toArray, List.set_cons_zero, List.set_cons_succ]
    refine wpAnyH_ready (rs := [9]) (by kernel_rfl) (by simp) ?_
    refine AllReadyH.cons (o := ⟨_, _, _, _, _, _⟩) rfl (fun K hK => ?_) AllReadyH.nil
    go_simp
    refine hK.out _ _ h7 (fun hHeld => ?_)
    clear hK K hHeld
    try simp only [Act.put, List.setIfInBounds_toArray, List.set_cons_zero, List.set_cons_succ]
    refine wpAnyH_done (by kernel_rfl) ?_ _
    have g6 := row_below h7 V4.out.2.2.1
    obtain ⟨g60, g61, g62, g63, g64, g6f⟩ := row5 g6
    have q6 := row_below h7 V4.out.2.2.2.1
    obtain ⟨o0, o1, o2, o3, o4, ofz⟩ := row5 (B := w.heap.size + 1 + 1) q6
    have zz7 : w1.heap.size < w6.heap.size := lt_of_heap g6
    have zz8 : w.heap.size + 1 + 1 < w1.heap.size := HH.out.2.2.2.2.2.2.1
    have Y := (show Hid (∃ G, w3.heap.size ≤ G ∧ RowAt (fun k => k = G) w6 44 6 (.slice av (fs.length + 1) cv) (fs.length + 1) (encFs (fs.take jn ++ ⟨name, x, .slice bl x.list.length dl, .slice bf x.fields.length df⟩ :: fs.drop jn)) ∧ Below W4.heap.size W4 w6) from ⟨_, by rw [World.size_alloc]; have := h5.size; have := HH.out.2.2.2.2.2.2.2.2.2; omega, hr6, h7⟩)
    clear hr6 hb6 g6 q6 h5 h6 h7
    show Oper.wp _ _ _ _ _ _
    go_simp
    go_wp2
    refine bodyPost_ret (v := .agg #[.int .i64 5, .int .i64 v.num, .string v.text, .slice al' v.list.length cl', .slice av (fs.length + 1) cv]) (by simp [results, Tryz.results39, go_sem, o0, o1, o2, o3, o4]) rfl ⟨_, _, rfl, ?_, ?_⟩
    · obtain ⟨G, hG, hr, hb46⟩ := Y.out
      have hb16 : Below w1.heap.size w1 w6 := V4.out.2.1.trans (hb46.mono V4.out.2.1.size)
      have hb36 : Below w3.heap.size w3 w6 := V4.out.1.trans (hb46.mono V4.out.1.size)
      obtain ⟨hBB, e1, f1, hfl, hjn2, hjn1, hz1, zw2, zw3, hs4⟩ := HH.out
      exact set_new_own S.out.2.1 S.out.2.2.1 S.out.2.2.2.1 U.out.1 hb16 hb36 hr e1 f1 hjn2 hjn1 zw2 zw3 hG hz1
    · obtain ⟨hBB, e1, f1, hfl, hjn2, hjn1, hz1, zw2, zw3, hs4⟩ := HH.out
      have hB6 := hB4.trans (Y.out.choose_spec.2.2.mono hB4.size)
      exact set5W_below (hB6.setCell (by simp; omega) _) (by omega) _ _ _ _ _ _ _ _ _ _
  · go_simp
    have h5 : ∀ o, Below W4.heap.size W4 (W4.drew.alloc o) := fun o => h0.alloc h0.size o
    refine hK.out _ _ (h5 _) (fun hHeld => ?_)
    clear hK K hHeld
    try simp only [Act.put, List.setIfInBounds_toArray, List.set_cons_zero, List.set_cons_succ]
    refine wpAnyH_ready (rs := [5]) (by kernel_rfl) (by simp) ?_
    refine AllReadyH.cons (o := ⟨_, _, _, _, _, _⟩) rfl (fun K hK => ?_) AllReadyH.nil
    go_simp
    refine (habove _ (hB4.trans ((h5 _).mono hB4.size))).mono ?_
    rintro e w5 ⟨rfl, hb5⟩
    have h6 : Below W4.heap.size W4 w5 := (h5 _).trans (hb5.mono (h5 _).size)
    have u5 := row_below hb5 (heap_alloc_new W4.drew _)
    refine hK.out _ _ h6 (fun hHeld => ?_)
    clear hK K hHeld hb5
    try simp only [Act.put, List.setIfInBounds_toArray, List.set_cons_zero, List.set_cons_succ]
    refine wpAnyH_ready (rs := [8]) (by kernel_rfl) (by simp) ?_
    refine AllReadyH.cons (o := ⟨_, _, _, _, _, _⟩) rfl (fun K hK => ?_) AllReadyH.nil
    go_simp
    refine (hIns _ _ h6 (enc_cells u5)).mono ?_
    rintro e w6 ⟨v', rfl, hr6, hb6⟩
    obtain ⟨av, cv, rfl⟩ := hr6.slice
    have h7 : Below W4.heap.size W4 w6 := h6.trans (hb6.mono h6.size)
    refine hK.out _ _ h7 (fun hHeld => ?_)
    clear hK K hHeld
    try simp only [Act.put, List.setIfInBounds_toArray, List.set_cons_zero, List.set_cons_succ]
    refine wpAnyH_ready (rs := [9]) (by kernel_rfl) (by simp) ?_
    refine AllReadyH.cons (o := ⟨_, _, _, _, _, _⟩) rfl (fun K hK => ?_) AllReadyH.nil
    go_simp
    refine hK.out _ _ h7 (fun hHeld => ?_)
    clear hK K hHeld
    try simp only [Act.put, List.setIfInBounds_toArray, List.set_cons_zero, List.set_cons_succ]
    refine wpAnyH_done (by kernel_rfl) ?_ _
    have g6 := row_below h7 V4.out.2.2.1
    obtain ⟨g60, g61, g62, g63, g64, g6f⟩ := row5 g6
    have q6 := row_below h7 V4.out.2.2.2.1
    obtain ⟨o0, o1, o2, o3, o4, ofz⟩ := row5 (B := w.heap.size + 1 + 1) q6
    have zz7 : w1.heap.size < w6.heap.size := lt_of_heap g6
    have zz8 : w.heap.size + 1 + 1 < w1.heap.size := HH.out.2.2.2.2.2.2.1
    have Y := (show Hid (∃ G, w3.heap.size ≤ G ∧ RowAt (fun k => k = G) w6 44 6 (.slice av (fs.length + 1) cv) (fs.length + 1) (encFs (fs.take jn ++ ⟨name, x, .slice bl x.list.length dl, .slice bf x.fields.length df⟩ :: fs.drop jn)) ∧ Below W4.heap.size W4 w6) from ⟨_, by have := h6.size; have := HH.out.2.2.2.2.2.2.2.2.2; omega, hr6, h7⟩)
    clear hr6 hb6 g6 q6 h5 h6 h7
    show Oper.wp _ _ _ _ _ _
    go_simp
    go_wp2
    refine bodyPost_ret (v := .agg #[.int .i64 5, .int .i64 v.num, .string v.text, .slice al' v.list.length cl', .slice av (fs.length + 1) cv]) (by simp [results, Tryz.results39, go_sem, o0, o1, o2, o3, o4]) rfl ⟨_, _, rfl, ?_, ?_⟩
    · obtain ⟨G, hG, hr, hb46⟩ := Y.out
      have hb16 : Below w1.heap.size w1 w6 := V4.out.2.1.trans (hb46.mono V4.out.2.1.size)
      have hb36 : Below w3.heap.size w3 w6 := V4.out.1.trans (hb46.mono V4.out.1.size)
      obtain ⟨hBB, e1, f1, hfl, hjn2, hjn1, hz1, zw2, zw3, hs4⟩ := HH.out
      exact set_new_own S.out.2.1 S.out.2.2.1 S.out.2.2.2.1 U.out.1 hb16 hb36 hr e1 f1 hjn2 hjn1 zw2 zw3 hG hz1
    · obtain ⟨hBB, e1, f1, hfl, hjn2, hjn1, hz1, zw2, zw3, hs4⟩ := HH.out
      have hB6 := hB4.trans (Y.out.choose_spec.2.2.mono hB4.size)
      exact set5W_below (hB6.setCell (by simp; omega) _) (by omega) _ _ _ _ _ _ _ _ _ _
end Go.Proofs.YtgcccihnlecpnaaGreatDoor

namespace Go.Proofs.YtgcccihnlecpnaaGreatDoor
open Go.RowKit

/-- between two blocks. -/
def Btw (a b : Nat) : Nat → Prop := fun k => a ≤ k ∧ k < b
/-- the cuts between what was copied one behind the other. -/
def cutsTo (c : Nat → Nat) (k z : Nat) : Nat → Nat := fun i => if i ≤ k then c i else z
theorem cutsTo_mono {c : Nat → Nat} {k z : Nat} (hc : ∀ i j, i ≤ j → c i ≤ c j) (hz : ∀ i, c i ≤ z) : ∀ i j, i ≤ j → cutsTo c k z i ≤ cutsTo c k z j := by
  intro i j h
  unfold cutsTo
  by_cases hi : i ≤ k
  · by_cases hj : j ≤ k
    · rw [if_pos hi, if_pos hj]; exact hc i j h
    · rw [if_pos hi, if_neg hj]; exact hz i
  · rw [if_neg hi, if_neg (by omega)]; exact Nat.le_refl _
/-- a copy of a list: its row is the first new block, all that is in it lies behind, one behind the other. -/
def CopyLO (m : Nat) (w w' : World) (es : List El) (l' : Value) : Prop :=
  ∃ (es' : List El) (c : Nat → Nat), es'.map El.v = es.map El.v ∧ RowAt (fun k => k = w.heap.size) w' 28 5 l' es'.length (encEs es') ∧ (∀ i j, i ≤ j → c i ≤ c j) ∧ ∀ (i : Nat) (e : El), es'[i]? = some e → Own m (Btw (c i) (c (i + 1))) w' e.v e.l e.f ∧ w.heap.size < c i ∧ c (i + 1) ≤ w'.heap.size

set_option maxHeartbeats 2000000 in
theorem twinListO_any (n m : Nat) (es : List El) (l : Value) (w : World) (hrow : RowAt (fun _ => True) w 28 5 l es.length (encEs es)) (hle : ∀ e ∈ es, Lies n w e.v e.l e.f)
    (hv : ∀ e ∈ es, ∀ W, Below w.heap.size w W → Calls Tryz.prog 19 #[.agg #[.int .i64 e.v.kind, .int .i64 e.v.num, .string e.v.text, e.l, e.f]] W fun r w' => ∃ l' f', r = .returned (.agg #[.int .i64 e.v.kind, .int .i64 e.v.num, .string e.v.text, l', f']) ∧ Own m (Btw W.heap.size w'.heap.size) w' e.v l' f' ∧ Below W.heap.size W w') :
    Calls Tryz.prog 31 #[l] w fun r w' => ∃ l', r = .returned l' ∧ CopyLO m w w' es l' ∧ Below w.heap.size w w' := by
  have hq : ∀ a m c W, (binOp .eql 25 (.slice a m c) (.slice none 0 0)).run Tryz.prog W = .ok (.bool a.isNone) W := fun a m c W => Lib.run_eql_slice_nil W _ _ a m c 0 0 Tryz.underlying25
  have hn := hrow.2.1
  rcases Nat.eq_zero_or_pos es.length with h0 | h0
  · obtain rfl := List.length_eq_zero_iff.1 h0
    clear hle hv
    rcases hrow.1.2 with ⟨rfl, _⟩ | ⟨g, cap, cur, rfl, _⟩
    · have q := hq none
      clear hrow
      go_enter Tryz.func31, Tryz.ntmps31
      go_wp2
      go_ret
      exact ⟨_, rfl, ⟨[], fun _ => 0, rfl, RowAt.nil, fun _ _ _ => Nat.le_refl _, fun i e he => by simp at he⟩, Below.refl _ _⟩
    · have q := hq (some ⟨g, 0, none⟩)
      have hmk := make_rows Tryz.underlying25 infoV 0 (by omega) (by omega)
      rw [show ((0 : Nat) : Int) = 0 from rfl] at hmk
      clear hrow
      go_enter Tryz.func31, Tryz.ntmps31
      go_wp2
      refine wp_loop_rounds 1 ?_
      rw [rounds_succ]
      go_wp2
      go_ret
      refine ⟨_, rfl, ⟨[], fun _ => 0, rfl, ⟨⟨rfl, .inr ⟨w.heap.size, 0, _, rfl, Nat.zero_le _, heap_alloc_new w _, Nat.le_refl _, by unfold maxLen; omega, by simp [madeCells], by simp [encEs]⟩⟩, Nat.zero_le _, fun b hb => by cases hb; rfl⟩, fun _ _ _ => Nat.le_refl _, fun i e he => by simp at he⟩, (Below.refl _ _).alloc (Nat.le_refl _) _⟩
  · obtain ⟨b, c, rfl, hbl, _, hc1, hc2, _⟩ := hrow.cells h0
    have hmk := make_rows Tryz.underlying25 infoV es.length (by omega) (by omega)
    have q := hq (some ⟨b, 0, none⟩)
    go_enter Tryz.func31, Tryz.ntmps31
    go_wp2
    go_loopg [4, 5, 13] es.length (fun gg _ _ i wr => ∃ (k : Nat) (ds : List El) (c : Nat → Nat), k ≤ es.length ∧ es.length - k ≤ gg ∧ i = .int .i64 k ∧ Aside (Below w.heap.size w wr ∧ PartV wr w.heap.size es.length k ds ∧ ds.map El.v = (es.take k).map El.v ∧ (∀ i j, i ≤ j → c i ≤ c j) ∧ (∀ i, w.heap.size < c i ∧ c i ≤ wr.heap.size) ∧ ∀ (i : Nat) (e : El), ds[i]? = some e → Own m (Btw (c i) (c (i + 1))) wr e.v e.l e.f))
    case atStart =>
      refine ⟨0, [], fun _ => w.heap.size + 1, Nat.zero_le _, by omega, rfl, (Below.refl _ _).alloc (Nat.le_refl _) _, ⟨rfl, _, heap_alloc_new w _, by simp [madeCells], by simp [encEs]⟩, rfl, fun _ _ _ => Nat.le_refl _, fun _ => ⟨Nat.lt_succ_self _, by simp⟩, fun i e he => by simp at he⟩
    case round =>
      obtain ⟨k, ds, c, hk, hgg, rfl, R⟩ := hrel
      by_cases hlt : k < es.length
      · obtain ⟨hB, hP, hd, hc1, hc2, hr⟩ := R.out
        obtain ⟨⟨xv, xl, xf⟩, hx⟩ : ∃ x, es[k]? = some x := ⟨_, List.getElem?_eq_getElem hlt⟩
        have hm : ∀ b, True → b < w.heap.size → True ∧ wr.heap[b]? = w.heap[b]? := fun b _ h => ⟨trivial, hB.block b h⟩
        obtain ⟨a0, a1, a2, a3, a4⟩ := (hrow.move hm).el hx
        have hlx : Lies n wr xv xl xf := (hle _ (List.mem_of_getElem? hx)).below hB
        simp only at a0 a1 a2 a3 a4
        have hcall := fun W (hW : Below wr.heap.size wr W) => hv _ (List.mem_of_getElem? hx) W (hB.trans (hW.mono hB.size))
        simp only at hcall
        obtain ⟨al, cl, af, cf, rfl, rfl⟩ := hlx.slices
        have zk : (k : Int) < (es.length : Int) := by omega
        clear hlx hm hv hle hrow hP hd hr hB hc1 hc2
        go_wp2_with fail
        refine (hcall _ ((Below.refl _ _).alloc (Nat.le_refl _) _)).mono ?_
        rintro e w' ⟨l', f', rfl, hrep, hb'⟩
        obtain ⟨al', cl', af', cf', rfl, rfl⟩ := hrep.slices
        obtain ⟨hB, hP, hd, hc1, hc2, hr⟩ := R.out
        have hlt' : w.heap.size < wr.heap.size := lt_of_heap hP.row.choose_spec.1
        have hBw : Below wr.heap.size wr w' := ((Below.refl _ _).alloc (Nat.le_refl _) _).trans (hb'.mono (by simp))
        have hP' : PartV w' w.heap.size es.length k ds := hP.keep (hBw.block _ hlt')
        obtain ⟨cur, h1, h2, h3⟩ := hP'.row
        obtain ⟨o0, c0⟩ := cell_row h1 (i := k * 5) (by omega)
        obtain ⟨o1, c1⟩ := cell_row h1 (i := k * 5 + 1) (by omega)
        obtain ⟨o2, c2⟩ := cell_row h1 (i := k * 5 + 2) (by omega)
        obtain ⟨o3, c3⟩ := cell_row h1 (i := k * 5 + 3) (by omega)
        obtain ⟨o4, c4⟩ := cell_row h1 (i := k * 5 + 4) (by omega)
        have f0 := frozen_row h1
        have S := (show Aside _ from And.intro hrep hb')
        have T := (show Aside _ from And.intro hBw hP')
        clear h1 h2 h3 hP hP' hrep hb' hBw hB hd hr hc1 hc2
        go_wp2
        go_roundg (es.length - (k + 1))
        case measure => omega
        case rel =>
          obtain ⟨hrep, hb'⟩ := S.out
          obtain ⟨hBw, hP'⟩ := T.out
          obtain ⟨hB, hP, hd, hc1, hc2, hr⟩ := R.out
          have hBB : Below w.heap.size w w' := hB.trans (hBw.mono hB.size)
          have hsz : wr.heap.size ≤ w'.heap.size := hBw.size
          have hsz2 : wr.heap.size < w'.heap.size := by have := hb'.size; simp at this; omega
          have hdl : ds.length = k := hP'.len
          refine ⟨k + 1, ds ++ [⟨xv, _, _⟩], cutsTo c k w'.heap.size, by omega, by omega, by go_num, ?_, hP'.step hlt xv _ _, ?_, cutsTo_mono hc1 (fun i => Nat.le_trans (hc2 i).2 hsz), fun i => ?_, ?_⟩
          · exact ((((hBB.setCell (Nat.le_refl _) _).setCell (Nat.le_refl _) _).setCell (Nat.le_refl _) _).setCell (Nat.le_refl _) _).setCell (Nat.le_refl _) _
          · rw [List.map_append, hd, List.take_add_one, hx]; simp
          · have := hc2 i
            simp only [World.size_setCell, cutsTo]
            split <;> omega
          · have hne : ∀ (b : Nat), w.heap.size < b → (((((w'.setCell ⟨w.heap.size, k * 5, none⟩ (.int .i64 xv.kind)).setCell ⟨w.heap.size, k * 5 + 1, none⟩ (.int .i64 xv.num)).setCell ⟨w.heap.size, k * 5 + 2, none⟩ (.string xv.text)).setCell ⟨w.heap.size, k * 5 + 3, none⟩ (.slice al' xv.list.length cl')).setCell ⟨w.heap.size, k * 5 + 4, none⟩ (.slice af' xv.fields.length cf')).heap[b]? = w'.heap[b]? := by
              intro b hb
              have : b ≠ w.heap.size := by omega
              rw [heap_setCell_ne _ _ _ this, heap_setCell_ne _ _ _ this, heap_setCell_ne _ _ _ this, heap_setCell_ne _ _ _ this, heap_setCell_ne _ _ _ this]
            intro i e he
            rcases Nat.lt_or_ge i k with hi | hi
            · rw [List.getElem?_append_left (by omega)] at he
              have ei : cutsTo c k w'.heap.size i = c i := if_pos (by omega)
              have ei' : cutsTo c k w'.heap.size (i + 1) = c (i + 1) := if_pos (by omega)
              rw [ei, ei']
              exact (hr i e he).move (fun b hb => hb) fun b hb hl => (hne b (Nat.lt_of_lt_of_le (hc2 i).1 hb.1)).trans (hBw.block b hl)
            · rw [List.getElem?_append_right (by omega)] at he
              obtain rfl : i = k := by
                have h0 := (List.getElem?_eq_some_iff.1 he).1
                simp at h0; omega
              rw [hdl, Nat.sub_self] at he
              cases he
              have ei : cutsTo c i w'.heap.size i = c i := if_pos (Nat.le_refl _)
              have ei' : cutsTo c i w'.heap.size (i + 1) = w'.heap.size := if_neg (by omega)
              rw [ei, ei']
              have hci := hc2 i
              refine hrep.move (fun b hb => ⟨?_, hb.2⟩) fun b hb hl => hne b ?_
              · have := hb.1; simp at this; omega
              · have := hb.1; simp at this; omega
      · have zk : ¬ (k : Int) < (es.length : Int) := by omega
        clear hv hle hrow
        go_wp2
        go_ret
        obtain ⟨hB, hP, hd, hc1, hc2, hr⟩ := R.out
        have hk' : k = es.length := by omega
        subst hk'
        exact ⟨_, rfl, ⟨ds, c, by rw [hd, List.take_length], hP.done hn rfl, hc1, fun i e he => ⟨hr i e he, (hc2 i).1, (hc2 (i + 1)).2⟩⟩, hB⟩
end Go.Proofs.YtgcccihnlecpnaaGreatDoor

namespace Go.Proofs.YtgcccihnlecpnaaGreatDoor
open Go.RowKit

/-- a copy of fields: its row is the first new block, all that is in it lies behind, one behind the other. -/
def CopyFO (m : Nat) (w w' : World) (es : List Fl) (l' : Value) : Prop :=
  ∃ (es' : List Fl) (c : Nat → Nat), es'.map Fl.pair = es.map Fl.pair ∧ RowAt (fun k => k = w.heap.size) w' 44 6 l' es'.length (encFs es') ∧ (∀ i j, i ≤ j → c i ≤ c j) ∧ ∀ (i : Nat) (e : Fl), es'[i]? = some e → Own m (Btw (c i) (c (i + 1))) w' e.v e.l e.f ∧ w.heap.size < c i ∧ c (i + 1) ≤ w'.heap.size

set_option maxHeartbeats 2000000 in
theorem twinFieldsO_any (n m : Nat) (es : List Fl) (l : Value) (w : World) (hrow : RowAt (fun _ => True) w 44 6 l es.length (encFs es)) (hle : ∀ e ∈ es, Lies n w e.v e.l e.f)
    (hv : ∀ e ∈ es, ∀ W, Below w.heap.size w W → Calls Tryz.prog 19 #[.agg #[.int .i64 e.v.kind, .int .i64 e.v.num, .string e.v.text, e.l, e.f]] W fun r w' => ∃ l' f', r = .returned (.agg #[.int .i64 e.v.kind, .int .i64 e.v.num, .string e.v.text, l', f']) ∧ Own m (Btw W.heap.size w'.heap.size) w' e.v l' f' ∧ Below W.heap.size W w') :
    Calls Tryz.prog 32 #[l] w fun r w' => ∃ l', r = .returned l' ∧ CopyFO m w w' es l' ∧ Below w.heap.size w w' := by
  have hq : ∀ a m c W, (binOp .eql 26 (.slice a m c) (.slice none 0 0)).run Tryz.prog W = .ok (.bool a.isNone) W := fun a m c W => Lib.run_eql_slice_nil W _ _ a m c 0 0 Tryz.underlying26
  have hn := hrow.2.1
  rcases Nat.eq_zero_or_pos es.length with h0 | h0
  · obtain rfl := List.length_eq_zero_iff.1 h0
    clear hle hv
    rcases hrow.1.2 with ⟨rfl, _⟩ | ⟨g, cap, cur, rfl, _⟩
    · have q := hq none
      clear hrow
      go_enter Tryz.func32, Tryz.ntmps32
      go_wp2
      go_ret
      exact ⟨.slice none 0 0, rfl, ⟨[], fun _ => 0, rfl, RowAt.nil, fun _ _ _ => Nat.le_refl _, fun i e he => by simp at he⟩, Below.refl _ _⟩
    · have q := hq (some ⟨g, 0, none⟩)
      have hmk := make_rows Tryz.underlying26 infoF 0 (by omega) (by omega)
      rw [show ((0 : Nat) : Int) = 0 from rfl] at hmk
      clear hrow
      go_enter Tryz.func32, Tryz.ntmps32
      go_wp2
      refine wp_loop_rounds 1 ?_
      rw [rounds_succ]
      go_wp2
      go_ret
      refine ⟨.slice (some ⟨w.heap.size, 0, none⟩) 0 0, rfl, ⟨[], fun _ => 0, rfl, ⟨⟨rfl, .inr ⟨w.heap.size, 0, _, rfl, Nat.zero_le _, heap_alloc_new w _, Nat.le_refl _, by unfold maxLen; omega, by simp [madeCells], by simp [encFs]⟩⟩, Nat.zero_le _, fun b hb => by cases hb; rfl⟩, fun _ _ _ => Nat.le_refl _, fun i e he => by simp at he⟩, (Below.refl _ _).alloc (Nat.le_refl _) _⟩
  · obtain ⟨b, c, rfl, hbl, _, hc1, hc2, _⟩ := hrow.cells h0
    have hmk := make_rows Tryz.underlying26 infoF es.length (by omega) (by omega)
    have q := hq (some ⟨b, 0, none⟩)
    go_enter Tryz.func32, Tryz.ntmps32
    go_wp2
    go_loopg [4, 5, 13] es.length (fun gg _ _ i wr => ∃ (k : Nat) (ds : List Fl) (c : Nat → Nat), k ≤ es.length ∧ es.length - k ≤ gg ∧ i = .int .i64 k ∧ Aside (Below w.heap.size w wr ∧ PartF wr w.heap.size es.length k ds ∧ ds.map Fl.pair = (es.take k).map Fl.pair ∧ (∀ i j, i ≤ j → c i ≤ c j) ∧ (∀ i, w.heap.size < c i ∧ c i ≤ wr.heap.size) ∧ ∀ (i : Nat) (e : Fl), ds[i]? = some e → Own m (Btw (c i) (c (i + 1))) wr e.v e.l e.f))
    case atStart =>
      refine ⟨0, [], fun _ => w.heap.size + 1, Nat.zero_le _, by omega, rfl, (Below.refl _ _).alloc (Nat.le_refl _) _, ⟨rfl, _, heap_alloc_new w _, by simp [madeCells], by simp [encFs]⟩, rfl, fun _ _ _ => Nat.le_refl _, fun _ => ⟨Nat.lt_succ_self _, by simp⟩, fun i e he => by simp at he⟩
    case round =>
      obtain ⟨k, ds, c, hk, hgg, rfl, R⟩ := hrel
      by_cases hlt : k < es.length
      · obtain ⟨hB, hP, hd, hc1, hc2, hr⟩ := R.out
        obtain ⟨⟨xn, xv, xl, xf⟩, hx⟩ : ∃ x, es[k]? = some x := ⟨_, List.getElem?_eq_getElem hlt⟩
        have hm : ∀ b, True → b < w.heap.size → True ∧ wr.heap[b]? = w.heap[b]? := fun b _ h => ⟨trivial, hB.block b h⟩
        obtain ⟨a0, a1, a2, a3, a4, a5⟩ := (hrow.move hm).fl hx
        have hlx : Lies n wr xv xl xf := (hle _ (List.mem_of_getElem? hx)).below hB
        simp only at a0 a1 a2 a3 a4 a5
        have hcall := fun W (hW : Below wr.heap.size wr W) => hv _ (List.mem_of_getElem? hx) W (hB.trans (hW.mono hB.size))
        simp only at hcall
        obtain ⟨al, cl, af, cf, rfl, rfl⟩ := hlx.slices
        have zk : (k : Int) < (es.length : Int) := by omega
        have hlt' : w.heap.size < wr.heap.size := lt_of_heap hP.row.choose_spec.1
        have hK : ∀ w', Below wr.heap.size wr w' → PartF w' w.heap.size es.length k ds := fun w' hW => hP.keep (hW.block _ hlt')
        have hBa : ∀ o, Below wr.heap.size wr (wr.alloc o).drew := fun o => ((Below.refl _ _).alloc (Nat.le_refl _) _).drew
        clear hlx hm hv hle hrow hP hd hr hB hc1 hc2
        go_wp2_with fail
        go_region_with (go_at_call 19; refine (hcall _ (hBa _)).mono ?_; rintro e w' ⟨l', f', rfl, hrep, hb'⟩; obtain ⟨al', cl', af', cf', rfl, rfl⟩ := hrep.slices; have k0 := hb'.cell (p := ⟨wr.heap.size, 0, none⟩) (by simp); simp at k0; have hBw := (hBa _).trans (hb'.mono (hBa _).size); have hP' := hK w' hBw; obtain ⟨o0, o1, o2, o3, o4, o5, c0, c1, c2, c3, c4, c5, f0⟩ := hP'.cells hlt; have S := (show Aside _ from And.intro hrep hb'); have T := (show Aside _ from And.intro hBw hP'); clear hrep hb' hBw hP')
        all_goals
          go_wp2
          go_roundg (es.length - (k + 1))
          case measure => omega
          case rel =>
            obtain ⟨hrep, hb'⟩ := S.out
            obtain ⟨hBw, hP'⟩ := T.out
            obtain ⟨hB, hP, hd, hc1, hc2, hr⟩ := R.out
            have hBB : Below w.heap.size w w' := hB.trans (hBw.mono hB.size)
            have hsz : wr.heap.size ≤ w'.heap.size := hBw.size
            have hsz2 : wr.heap.size < w'.heap.size := by have := hb'.size; simp at this; omega
            have hdl : ds.length = k := hP'.len
            refine ⟨k + 1, ds ++ [⟨xn, xv, _, _⟩], cutsTo c k w'.heap.size, by omega, by omega, by go_num, ?_, hP'.step hlt xn xv _ _, ?_, cutsTo_mono hc1 (fun i => Nat.le_trans (hc2 i).2 hsz), fun i => ?_, ?_⟩
            · exact (((((hBB.setCell (Nat.le_refl _) _).setCell (Nat.le_refl _) _).setCell (Nat.le_refl _) _).setCell (Nat.le_refl _) _).setCell (Nat.le_refl _) _).setCell (Nat.le_refl _) _
            · rw [List.map_append, hd, List.take_add_one, hx]; simp [Fl.pair]
            · have := hc2 i
              simp only [World.size_setCell, cutsTo]
              split <;> omega
            · have hne : ∀ (b : Nat), w.heap.size < b → ((((((w'.setCell ⟨w.heap.size, k * 6, none⟩ (.string xn)).setCell ⟨w.heap.size, k * 6 + 1, none⟩ (.int .i64 xv.kind)).setCell ⟨w.heap.size, k * 6 + 2, none⟩ (.int .i64 xv.num)).setCell ⟨w.heap.size, k * 6 + 3, none⟩ (.string xv.text)).setCell ⟨w.heap.size, k * 6 + 4, none⟩ (.slice al' xv.list.length cl')).setCell ⟨w.heap.size, k * 6 + 5, none⟩ (.slice af' xv.fields.length cf')).heap[b]? = w'.heap[b]? := by
                intro b hb
                have : b ≠ w.heap.size := by omega
                rw [heap_setCell_ne _ _ _ this, heap_setCell_ne _ _ _ this, heap_setCell_ne _ _ _ this, heap_setCell_ne _ _ _ this, heap_setCell_ne _ _ _ this, heap_setCell_ne _ _ _ this]
              intro i e he
              rcases Nat.lt_or_ge i k with hi | hi
              · rw [List.getElem?_append_left (by omega)] at he
                have ei : cutsTo c k w'.heap.size i = c i := if_pos (by omega)
                have ei' : cutsTo c k w'.heap.size (i + 1) = c (i + 1) := if_pos (by omega)
                rw [ei, ei']
                exact (hr i e he).move (fun b hb => hb) fun b hb hl => (hne b (Nat.lt_of_lt_of_le (hc2 i).1 hb.1)).trans (hBw.block b hl)
              · rw [List.getElem?_append_right (by omega)] at he
                obtain rfl : i = k := by
                  have h0 := (List.getElem?_eq_some_iff.1 he).1
                  simp at h0; omega
                rw [hdl, Nat.sub_self] at he
                cases he
                have ei : cutsTo c i w'.heap.size i = c i := if_pos (Nat.le_refl _)
                have ei' : cutsTo c i w'.heap.size (i + 1) = w'.heap.size := if_neg (by omega)
                rw [ei, ei']
                have hci := hc2 i
                refine hrep.move (fun b hb => ⟨?_, hb.2⟩) fun b hb hl => hne b ?_
                · have := hb.1; simp at this; omega
                · have := hb.1; simp at this; omega
      · have zk : ¬ (k : Int) < (es.length : Int) := by omega
        clear hv hle hrow
        go_wp2
        go_ret
        obtain ⟨hB, hP, hd, hc1, hc2, hr⟩ := R.out
        have hk' : k = es.length := by omega
        subst hk'
        exact ⟨.slice (some ⟨w.heap.size, 0, none⟩) es.length es.length, rfl, ⟨ds, c, by rw [hd, List.take_length], hP.done hn rfl, hc1, fun i e he => ⟨hr i e he, (hc2 i).1, (hc2 (i + 1)).2⟩⟩, hB⟩
end Go.Proofs.YtgcccihnlecpnaaGreatDoor
