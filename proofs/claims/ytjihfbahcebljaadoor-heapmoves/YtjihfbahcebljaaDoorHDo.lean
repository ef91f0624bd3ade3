/-
  The law's deed, by its contract. Conditions: as stated.
-/
import Derived.Test.YtjihfbahcebljaaDoorHAct
import Derived.Test.YtjihfbahcebljaaDoorHMap
import Derived.Deep.CutRange
namespace Go.Proofs.YtjihfbahcebljaaDoor
open Go.RowKit

/-- a value as a map holds it. -/
structure Mv where
  v : V
  al : Option Addr
  cl : Nat
  af : Option Addr
  cf : Nat
def mkV (m : Mv) : Value := .agg #[.int .i64 m.v.kind, .int .i64 m.v.num, .string m.v.text, .slice m.al m.v.list.length m.cl, .slice m.af m.v.fields.length m.cf]
/-- what a map holds is what the records are, and lies there. -/
def Lp (W : World) (g : Int → Option Mv) (rs : List Rec) : Prop := ∀ i, (g i).map Mv.v = getR i rs ∧ ∀ m, g i = some m → Lies 3 W m.v (.slice m.al m.v.list.length m.cl) (.slice m.af m.v.fields.length m.cf)
def Pair (base : Nat) (W : World) (M n : Nat) (rs : List Rec) : Prop := base ≤ M ∧ ∃ g : Int → Option Mv, MapOn mkV W M n g rs.length ∧ Lp W g rs

section
variable {base B M n : Nat} {rs rs' : List Rec} {last : Int} {W W' : World} {g : Int → Option Mv}
theorem Lp.kept (h : Lp W g rs) (k : Kept W W') : Lp W' g rs := fun i => ⟨(h i).1, fun m hm => ((h i).2 m hm).kept k⟩
theorem Lp.cells (h : Lp W g rs) (k : Cells W W') : Lp W' g rs := fun i => ⟨(h i).1, fun m hm => ((h i).2 m hm).cells k⟩
theorem Lp.put (h : Lp W g rs) {i : Int} {m : Mv} (hm : Lies 3 W m.v (.slice m.al m.v.list.length m.cl) (.slice m.af m.v.fields.length m.cf)) (hr : ∀ j, getR j rs' = if j = i then some m.v else getR j rs) : Lp W (fun j => if j = i then some m else g j) rs' := by
  intro j
  rw [hr]
  dsimp only
  by_cases e : j = i
  · rw [if_pos e, if_pos e]
    exact ⟨rfl, fun m' hm' => by cases hm'; exact hm⟩
  · rw [if_neg e, if_neg e]; exact h j
theorem Lp.del (h : Lp W g rs) {i : Int} (hr : ∀ j, getR j rs' = if j = i then none else getR j rs) : Lp W (fun j => if j = i then none else g j) rs' := by
  intro j
  rw [hr]
  dsimp only
  by_cases e : j = i
  · rw [if_pos e, if_pos e]
    exact ⟨rfl, fun m' hm' => by cases hm'⟩
  · rw [if_neg e, if_neg e]; exact h j
theorem Lp.isSome (h : Lp W g rs) (i : Int) : (g i).isSome = (getR i rs).isSome := by rw [← (h i).1]; cases g i <;> rfl
theorem map_kept {α : Type} {mk : α → Value} {b : Nat} {c : Nat} {g : Int → Option α} (h : MapOn mk W b n g c) (k : Kept W W') : MapOn mk W' b n g c := by
  obtain ⟨es, c, hm⟩ := h.block
  exact h.stay ((k b _ hm (fun _ e => by cases e) (fun _ e => by cases e)).trans hm.symm)
theorem Pair.kept (h : Pair base W M n rs) (k : Kept W W') : Pair base W' M n rs := by
  obtain ⟨h0, g, h1, h2⟩ := h
  exact ⟨h0, g, map_kept h1 k, h2.kept k⟩
theorem Pair.below (h : Pair base W M n rs) (k : Below W.heap.size W W') : Pair base W' M n rs := h.kept (below_kept k)
theorem Pair.lt (h : Pair base W M n rs) : M < W.heap.size := by
  obtain ⟨h0, g, h1, h2⟩ := h
  exact h1.lt
theorem cells_put {α : Type} {mk : α → Value} {b : Nat} {c : Nat} {g : Int → Option α} (h : MapOn mk W b n g c) (hg : W.grownBy W' (some b)) : Cells W W' := by
  obtain ⟨es, k, hm⟩ := h.block
  exact Cells.of_map hm hg
end

theorem zeroValueV (w : World) : (zeroValue 38).run Tryd.prog w = .ok (.agg #[.int .i64 0, .int .i64 0, .string ⟨#[]⟩, .slice none 0 0, .slice none 0 0]) w := by kernel_rfl

theorem set5_at {W : World} {B t : Nat} {a0 a1 a2 a3 a4 b0 b1 b2 b3 b4 : Value} (h : W.heap[B]? = some (.cells #[a0, a1, a2, a3, a4] t (0, 0))) : (set5W W B 0 1 2 3 4 b0 b1 b2 b3 b4).heap[B]? = some (.cells #[b0, b1, b2, b3, b4] t (0, 0)) := by
  unfold set5W
  rw [setCell_row (setCell_row (setCell_row (setCell_row (setCell_row h _) _) _) _) _]; rfl

/-- what a deed leaves. -/
def Did (base B M n : Nat) (rs : List Rec) (last : Int) (w : World) (e : Ending) (w' : World) : Prop :=
  ∃ (rs' : List Rec) (last' : Int), e = .returned (.tuple #[.int .i64 last', .bool true]) ∧ HSt base w' B rs' last' ∧ Pair base w' M (n + 1) rs' ∧ Below base w w' ∧ last' ≤ last + 1 ∧ rs'.length ≤ rs.length + 1

attribute [local go_sem ↓] Go.wp_at_zero Go.wp_at_succ
set_option maxRecDepth 100000 in
set_option maxHeartbeats 8000000 in
theorem do_any {base B M n : Nat} {rs : List Rec} {last : Int} (kd id : Int) (bs : List UInt8) (ba : Option Addr) (bc : Nat) (w : World) (h : HSt base w B rs last) (hp : Pair base w M n rs) (hn : n < 1000) (hl : last < 100000) (hr : rs.length < 400)
    (_hk0 : 0 ≤ kd) (hi0 : 0 ≤ id) (hb : BytesAt w (.slice ba bs.length bc) bs) (hT : Tabs w) :
    Calls Tryd.prog 10 #[.pointer (some ⟨B, 0, none⟩), .map (some M), .int .i64 last, .agg #[.int .u8 kd, .int .u8 id, .slice ba bs.length bc]] w
      fun e w' => Did base B M n rs last w e w' := by
  obtain ⟨W1, hW1⟩ : ∃ W, w.alloc (.cells #[.int .u8 kd, .int .u8 id, .slice ba bs.length bc] 29) = W := ⟨_, rfl⟩
  have hB1 : Below w.heap.size w W1 := by rw [← hW1]; exact (Below.refl _ _).alloc (Nat.le_refl _) _
  have hq1 : W1.heap[w.heap.size]? = some (.cells #[.int .u8 kd, .int .u8 id, .slice ba bs.length bc] 29 (0, 0)) := by rw [← hW1]; exact heap_alloc_new _ _
  have hlt1 : w.heap.size < W1.heap.size := lt_of_heap hq1
  have hof := fun W (hW : Below w.heap.size w W) => Of_any (.slice ba bs.length bc) bs W (hb.below hW) (hT.below hW)
  have c1 : W1.cell? ⟨w.heap.size, 1, none⟩ = some (.int .u8 id) := by simp [World.cell?, hq1]
  have c2 : W1.cell? ⟨w.heap.size, 2, none⟩ = some (.slice ba bs.length bc) := by simp [World.cell?, hq1]
  have P1 := fun (w' : World) (h : w'.heap[w.heap.size]? = W1.heap[w.heap.size]?) => (World.cell?_of_block (a := ⟨w.heap.size, 1, none⟩) h).trans c1
  have P2 := fun (w' : World) (h : w'.heap[w.heap.size]? = W1.heap[w.heap.size]?) => (World.cell?_of_block (a := ⟨w.heap.size, 2, none⟩) h).trans c2
  have h0 : (fun w' : World => w'.heap[w.heap.size]? = W1.heap[w.heap.size]?) W1.drew := rfl
  have zid : IntKind.i64.wrap (id.tmod 24) = id % 24 := by rw [IntKind.wrap_i64, Int.tmod_eq_emod_of_nonneg hi0]; omega
  have hbase := h.base_le
  have HH := (show Hid _ from And.intro h (And.intro hp (And.intro hb hT)))
  have H1 := (show Hid _ from And.intro hB1 hq1)
  clear h hp hb hT c1 c2 hB1 hq1
  go_enter Tryd.func10, Tryd.ntmps10
  go_wp2_with fail
  clear hW1
  go_cut [10, 11] from 16 (fun s10 s11 wr => ∃ (P : Nat) (x : V) (al : Option Addr) (cl : Nat) (af : Option Addr) (cf : Nat), s10 = .pointer (some ⟨P, 0, none⟩) ∧ s11 = .int .i64 (id % 24) ∧ Aside (Lies 3 wr x (.slice al x.list.length cl) (.slice af x.fields.length cf) ∧ Below w.heap.size w wr ∧
    wr.heap[w.heap.size]? = some (.cells #[.int .u8 kd, .int .u8 id, .slice ba bs.length bc] 29 (0, 0)) ∧ wr.heap[P]? = some (.cells #[.int .i64 x.kind, .int .i64 x.num, .string x.text, .slice al x.list.length cl, .slice af x.fields.length cf] 38 (0, 0))))
  case first =>
    refine wp_region_snoc_held2 (S := fun w' => w'.heap[w.heap.size]? = W1.heap[w.heap.size]?) (head := #[_, _, _, _, _, _, _, _, _]) (last := ⟨_, _, _, _, _, _⟩) mixed (by kernel_rfl) rfl ?_
    refine wpAnyH_take (i := 0) (oi := ⟨_, _, _, _, _, _⟩) (v := ?v0) rfl (by kernel_rfl) (by kernel_rfl) (by kernel_rfl) (fun _ _ _ h => h) (Or.inl ⟨by rfl, ?hy0⟩) h0 ?rest0
    case hy0 => (intro w hSw; (try dsimp only at hSw); go_simp; try with_reducible rfl)
    simp only [Act.put, List.setIfInBounds_toArray, List.set_cons_zero, List.set_cons_succ]
    refine wpAnyH_take (i := 1) (oi := ⟨_, _, _, _, _, _⟩) (v := ?v1) rfl (by kernel_rfl) (by kernel_rfl) (by kernel_rfl) (fun _ _ _ h => h) (Or.inl ⟨by rfl, ?hy1⟩) h0 ?rest1
    case hy1 => (intro w hSw; (try dsimp only at hSw); go_simp; try with_reducible rfl)
    simp only [Act.put, List.setIfInBounds_toArray, List.set_cons_zero, List.set_cons_succ]
    refine wpAnyH_take (i := 3) (oi := ⟨_, _, _, _, _, _⟩) (v := ?v3) rfl (by kernel_rfl) (by kernel_rfl) (by kernel_rfl) (fun _ _ _ h => h) (Or.inl ⟨by rfl, ?hy3⟩) h0 ?rest3
    case hy3 => (intro w hSw; (try dsimp only at hSw); go_simp; try with_reducible rfl)
    simp only [Act.put, List.setIfInBounds_toArray, List.set_cons_zero, List.set_cons_succ]
    refine wpAnyH_take (i := 4) (oi := ⟨_, _, _, _, _, _⟩) (v := ?v4) rfl (by kernel_rfl) (by kernel_rfl) (by kernel_rfl) (fun _ _ _ h => h) (Or.inl ⟨by rfl, ?hy4⟩) h0 ?rest4
    case hy4 => (intro w hSw; (try dsimp only at hSw); go_simp; try with_reducible rfl)
    simp only [Act.put, List.setIfInBounds_toArray, List.set_cons_zero, List.set_cons_succ]
    refine wpAnyH_take (i := 5) (oi := ⟨_, _, _, _, _, _⟩) (v := ?v5) rfl (by kernel_rfl) (by kernel_rfl) (by kernel_rfl) (fun _ _ _ h => h) (Or.inl ⟨by rfl, ?hy5⟩) h0 ?rest5
    case hy5 => (intro w hSw; (try dsimp only at hSw); go_simp; try with_reducible rfl)
    simp only [Act.put, List.setIfInBounds_toArray, List.set_cons_zero, List.set_cons_succ]
    refine wpAnyH_take (i := 6) (oi := ⟨_, _, _, _, _, _⟩) (v := ?v6) rfl (by kernel_rfl) (by kernel_rfl) (by kernel_rfl) (fun _ _ _ h => h) (Or.inl ⟨by rfl, ?hy6⟩) h0 ?rest6
    case hy6 => (intro w hSw; (try dsimp only at hSw); go_simp; try with_reducible rfl)
    simp only [Act.put, List.setIfInBounds_toArray, List.set_cons_zero, List.set_cons_succ]

    refine wpAnyH_ready (rs := [2, 7]) (by kernel_rfl) (by simp) ?_
    refine AllReadyH.cons (o := ⟨_, _, _, _, _, _⟩) rfl (fun K hK => ?_) (AllReadyH.cons (o := ⟨_, _, _, _, _, _⟩) rfl (fun K hK => ?_) AllReadyH.nil)
    · go_simp
      refine (hof W1.drew H1.out.1.drew).mono ?_
      rintro e w2 ⟨x, l, f, rfl, hnx, hrx, hb2⟩
      obtain ⟨al, cl, af, cf, rfl, rfl⟩ := hrx.slices
      have h2 : w2.heap[w.heap.size]? = W1.heap[w.heap.size]? := hb2.block w.heap.size hlt1
      refine hK.out _ _ h2 (fun hHeld => ?_)
      clear hK K hHeld hof P1 P2 h0
      try simp only [Act.put, List.setIfInBounds_toArray, List.set_cons_zero, List.set_cons_succ]
      refine wpAnyH_ready (rs := [7]) (by kernel_rfl) (by simp) ?_
      refine AllReadyH.cons (o := ⟨_, _, _, _, _, _⟩) rfl (fun K hK => ?_) AllReadyH.nil
      have hs2 : W1.heap.size ≤ w2.heap.size := hb2.size
      go_simp
      have h3 : ∀ o, (w2.alloc o).heap[w.heap.size]? = W1.heap[w.heap.size]? := fun o => (Below.heap_alloc w2 o w.heap.size (by omega)).trans h2
      refine hK.out _ _ (h3 _) (fun hHeld => ?_)
      clear hK K hHeld
      try simp only [Act.put, List.setIfInBounds_toArray, List.set_cons_zero, List.set_cons_succ]
      refine wpAnyH_ready (rs := [8]) (by kernel_rfl) (by simp) ?_
      refine AllReadyH.cons (o := ⟨_, _, _, _, _, _⟩) rfl (fun K hK => ?_) AllReadyH.nil
      go_simp
      refine hK.out _ _ (h3 _) (fun hHeld => ?_)
      clear hK K hHeld
      try simp only [Act.put, List.setIfInBounds_toArray, List.set_cons_zero, List.set_cons_succ]
      refine wpAnyH_done (by kernel_rfl) ?_ _
      show Oper.wp _ _ _ _ _ _
      go_simp
      go_wp2_with fail
      go_meet
      have hb02 : Below w.heap.size w w2 := H1.out.1.trans ((Below.drop_drew hb2).mono H1.out.1.size)
      refine ⟨w2.heap.size, x, al, cl, af, cf, rfl, rfl, ?_, ?_, (h3 _).trans H1.out.2, heap_alloc_new _ _⟩
      · exact (Rep.lies hrx).below ((Below.refl _ _).alloc (Nat.le_refl _) _)
      · exact hb02.alloc hb02.size _
    · go_simp
      have h2 : ∀ o, (W1.drew.alloc o).heap[w.heap.size]? = W1.heap[w.heap.size]? := fun o => Below.heap_alloc W1.drew o w.heap.size hlt1
      refine hK.out _ _ (h2 _) (fun hHeld => ?_)
      clear hK K hHeld
      try simp only [Act.put, List.setIfInBounds_toArray, List.set_cons_zero, List.set_cons_succ]
      refine wpAnyH_ready (rs := [2]) (by kernel_rfl) (by simp) ?_
      refine AllReadyH.cons (o := ⟨_, _, _, _, _, _⟩) rfl (fun K hK => ?_) AllReadyH.nil
      go_simp
      have hbA : ∀ o, Below w.heap.size w (W1.drew.alloc o) := fun o => H1.out.1.drew.alloc H1.out.1.size _
      refine (hof _ (hbA _)).mono ?_
      rintro e w3 ⟨x, l, f, rfl, hnx, hrx, hb3⟩
      obtain ⟨al, cl, af, cf, rfl, rfl⟩ := hrx.slices
      have r3 : w3.heap[W1.heap.size]? = some (.cells #[.int .i64 0, .int .i64 0, .string ⟨#[]⟩, .slice none 0 0, .slice none 0 0] 38 (0, 0)) := row_below hb3 (heap_alloc_new W1.drew _)
      obtain ⟨x0, x1, x2, x3, x4, xf⟩ := row5 r3
      have h3 : w3.heap[w.heap.size]? = W1.heap[w.heap.size]? := (hb3.block w.heap.size (by simp; omega)).trans (h2 _)
      refine hK.out _ _ h3 (fun hHeld => ?_)
      clear hK K hHeld hof P1 P2 h0
      try simp only [Act.put, List.setIfInBounds_toArray, List.set_cons_zero, List.set_cons_succ]
      refine wpAnyH_ready (rs := [8]) (by kernel_rfl) (by simp) ?_
      refine AllReadyH.cons (o := ⟨_, _, _, _, _, _⟩) rfl (fun K hK => ?_) AllReadyH.nil
      go_simp
      have zne : w.heap.size ≠ W1.heap.size := by omega
      refine hK.out _ _ ((set5W_ne w3 W1.heap.size 0 1 2 3 4 _ _ _ _ _ zne).trans h3) (fun hHeld => ?_)
      clear hK K hHeld
      try simp only [Act.put, List.setIfInBounds_toArray, List.set_cons_zero, List.set_cons_succ]
      refine wpAnyH_done (by kernel_rfl) ?_ _
      show Oper.wp _ _ _ _ _ _
      go_simp
      go_wp2_with fail
      go_meet
      have hb03 : Below w.heap.size w w3 := (hbA _).trans (hb3.mono (hbA _).size)
      have zB : w.heap.size ≤ W1.heap.size := by omega
      refine ⟨W1.heap.size, x, al, cl, af, cf, rfl, rfl, ?_, set5W_below hb03 zB _ _ _ _ _ _ _ _ _ _, (set5W_ne w3 W1.heap.size 0 1 2 3 4 _ _ _ _ _ zne).trans (h3.trans H1.out.2), set5_at r3⟩
      exact hrx.move fun b hb _ => ⟨trivial, set5W_ne _ _ _ _ _ _ _ _ _ _ _ _ (by have hb : (W1.drew.alloc _).heap.size ≤ b := hb; simp at hb; omega)⟩
  case rest =>
    obtain ⟨P, x, al, cl, af, cf, rfl, rfl, A⟩ := hcut
    obtain ⟨hlx, hbx, hqx, hpx⟩ := A.out
    obtain ⟨h, hp, hb, hT⟩ := HH.out
    obtain ⟨x0, x1, x2, x3, x4, xf⟩ := row5 hpx
    have c0 : wc.cell? ⟨w.heap.size, 0, none⟩ = some (.int .u8 kd) := by simp [World.cell?, hqx]
    have zP := lt_of_heap hpx
    have zW := lt_of_heap hqx
    have h1 := h.below hbx
    obtain ⟨hM, g, hm, hg⟩ := hp.below hbx
    have zM := hm.lt
    have zwf : (Lit.int .i64 (id % 24)).wf = true := wfK (by omega) (by omega)
    have zwl : (Lit.int .i64 (last + 1)).wf = true := wfK (by have := h.2.2.2.1; omega) (by omega)
    have zbc : base ≤ wc.heap.size := h1.base_le
    have hml : n < maxLen := by unfold maxLen; omega
    have zl0 : wrap64 (last + 1) = last + 1 := by have := h.2.2.2.1; unfold wrap64; omega
    obtain ⟨k5, hk5⟩ : ∃ k5, kd.tmod 5 = k5 := ⟨_, rfl⟩
    have KH := (show Hid _ from And.intro h1 (And.intro hM (And.intro hg (And.intro hlx (And.intro hbx hpx)))))
    have hmH : Hid (MapOn mkV wc M n g rs.length) := hm
    have hgs := hg.isSome (id % 24)
    have hB1 : ∀ o1, Below wc.heap.size wc (wc.alloc o1) := fun o1 => (Below.refl _ _).alloc (Nat.le_refl _) _
    have hmA : ∀ o1, MapOn mkV (wc.alloc o1) M n g rs.length := fun o1 => map_kept hm (kept_alloc _ _)
    clear h1 hM hg hlx hbx hpx hqx h hp hb hT hof P1 P2 h0 zid A HH H1 hm
    by_cases hk3 : k5 = 3
    · subst hk3
      cases hgi : g (id % 24) with
      | some m =>
        have hgr : (getR (id % 24) rs).isSome = true := by rw [← hgs, hgi]; rfl
        go_wp2_with (first | (at_lookup; refine wpList_mlook_ok_some rfl _ _ 26 rfl 38 Tryd.underlying26 (zeroValueV _) M n g rs.length rfl hmH.out (id % 24) zwf rfl m hgi ?_; unfold mkV) | (at_mapUpdate; refine wpList_mput rfl _ _ _ 26 rfl 38 Tryd.underlying26 M n g rs.length rfl (hmA _) hml (id % 24) zwf (by first | rfl | simp [Act.eval, Act.put, zl0]) ⟨x, al, cl, af, cf⟩ (by first | rfl | simp [Act.eval, Act.put, mkV]) ?_; intro w2 hm2 hg2; have hc2 := cells_put (hmA _) hg2; have q2 := (hc2 P _ _ ((Below.heap_alloc wc _ P zP).trans KH.out.2.2.2.2.2)).trans ((Below.heap_alloc wc _ P zP).trans KH.out.2.2.2.2.2); have h2 : HSt base w2 B rs last := HSt.cells (HSt.below KH.out.1 (hB1 _)) hc2; have hlx2 : Lies 3 w2 x _ _ := Lies.cells (Lies.below (hB1 _) KH.out.2.2.2.1) hc2; obtain ⟨y0, y1, y2, y3, y4, yf⟩ := row5 q2; have hM := KH.out.2.1; have hbw2 : Below base w w2 := ((KH.out.2.2.2.2.1.mono hbase).trans ((hB1 _).mono zbc)).grown hg2 (by simp; omega) (fun k e => by cases e; exact hM); have hl2 : Lp w2 (fun j => if j = id % 24 then some ⟨x, al, cl, af, cf⟩ else g j) (setR (id % 24) x rs) := Lp.put ((KH.out.2.2.1.kept (kept_alloc _ _)).cells hc2) hlx2 (fun j => by rw [get_setR, if_pos hgr])) | fail)
        have hset := SetH_any (id % 24) x _ _ w2 h2 hlx2
        rw [hgr] at hset
        refine hset.mono ?_
        rintro e w3 ⟨rfl, h3, hk23, hb23⟩
        have HZ := (show Hid _ from And.intro hm2 (And.intro h3 (And.intro hk23 (And.intro hb23 (And.intro hl2 hbw2)))))
        clear hset hm2 hg2 h3 hk23 hb23 hl2 hbw2 h2 hlx2 q2 hc2 y0 y1 y2 y3 y4 yf hmA hB1 KH
        go_wp2
        go_ret2
        obtain ⟨hm2, h3, hk23, hb23, hl2, hbw2⟩ := HZ.out
        refine ⟨setR (id % 24) x rs, last, rfl, h3, ⟨hM, _, (map_kept hm2 hk23).alter (fun _ => rfl) (by rw [hgi, len_setR]; rfl), (hl2.kept hk23)⟩, hbw2.trans hb23, by omega, by rw [len_setR]; omega⟩
      | none =>
        have hgr : (getR (id % 24) rs).isSome = false := by rw [← hgs, hgi]; rfl
        have hgn : getR (id % 24) rs = none := by simpa using hgr
        go_wp2_with (first | (at_lookup; refine wpList_mlook_ok_none rfl _ _ 26 rfl 38 Tryd.underlying26 (zeroValueV _) M n g rs.length rfl hmH.out (id % 24) zwf rfl hgi ?_) | fail)
        have hset := fun o1 => SetH_any (id % 24) x _ _ (wc.alloc o1) (HSt.below KH.out.1 (hB1 o1)) (Lies.below (hB1 o1) KH.out.2.2.2.1)
        rw [hgr, set_noneR hgn] at hset
        refine (hset _).mono ?_
        rintro e w3 ⟨rfl, h3, hk23, hb23⟩
        have HZ := (show Hid _ from And.intro h3 (And.intro hk23 hb23))
        clear hset h3 hk23 hb23
        go_wp2
        go_ret2
        obtain ⟨h3, hk23, hb23⟩ := HZ.out
        refine ⟨rs, last, rfl, h3, ⟨KH.out.2.1, g, (map_kept (map_kept hmH.out (kept_alloc _ _)) hk23).le (by omega), (KH.out.2.2.1.kept (kept_alloc _ _)).kept hk23⟩, ((KH.out.2.2.2.2.1.mono hbase).trans ((hB1 _).mono zbc)).trans hb23, by omega, by omega⟩
    · by_cases hk4 : k5 = 4
      · subst hk4
        cases hgi : g (id % 24) with
        | some m =>
          have hgr : (getR (id % 24) rs).isSome = true := by rw [← hgs, hgi]; rfl
          go_wp2_with (first | (at_lookup; refine wpList_mlook_ok_some rfl _ _ 26 rfl 38 Tryd.underlying26 (zeroValueV _) M n g rs.length rfl hmH.out (id % 24) zwf rfl m hgi ?_; unfold mkV) | (at_delete; refine wpList_mdel rfl _ _ 26 rfl 38 Tryd.underlying26 M n g rs.length rfl (hmA _) (id % 24) zwf rfl ?_; intro w2 hm2 hg2; have hc2 := cells_put (hmA _) hg2; have h2 : HSt base w2 B rs last := HSt.cells (HSt.below KH.out.1 (hB1 _)) hc2; have hbw2 : Below base w w2 := ((KH.out.2.2.2.2.1.mono hbase).trans ((hB1 _).mono zbc)).grown hg2 (by simp; omega) (fun k e => by cases e; exact KH.out.2.1)) | fail)
          have hdel := DelH_any (id % 24) w2 h2
          rw [hgr] at hdel
          refine hdel.mono ?_
          rintro e w3 ⟨rfl, h3, hk23, hb23⟩
          have HZ := (show Hid _ from And.intro hm2 (And.intro hc2 (And.intro hbw2 (And.intro h3 (And.intro hk23 hb23)))))
          clear hdel hm2 hg2 hc2 hbw2 h2 h3 hk23 hb23
          go_wp2
          go_ret2
          obtain ⟨hm2, hc2, hbw2, h3, hk23, hb23⟩ := HZ.out
          refine ⟨delR (id % 24) rs, last, rfl, h3, ⟨KH.out.2.1, _, ((map_kept hm2 hk23).alter (fun _ => rfl) (by rw [hgs, len_delR])).le (by omega), ?_⟩, hbw2.trans hb23, by omega, by rw [len_delR]; omega⟩
          exact (Lp.del ((KH.out.2.2.1.kept (kept_alloc _ _)).cells hc2) (fun j => get_delR KH.out.1.2.1)).kept hk23
        | none =>
          have hgr : (getR (id % 24) rs).isSome = false := by rw [← hgs, hgi]; rfl
          go_wp2_with (first | (at_lookup; refine wpList_mlook_ok_none rfl _ _ 26 rfl 38 Tryd.underlying26 (zeroValueV _) M n g rs.length rfl hmH.out (id % 24) zwf rfl hgi ?_) | (at_delete; refine wpList_mdel rfl _ _ 26 rfl 38 Tryd.underlying26 M n g rs.length rfl (hmA _) (id % 24) zwf rfl ?_; intro w2 hm2 hg2; have hc2 := cells_put (hmA _) hg2; have h2 : HSt base w2 B rs last := HSt.cells (HSt.below KH.out.1 (hB1 _)) hc2; have hbw2 : Below base w w2 := ((KH.out.2.2.2.2.1.mono hbase).trans ((hB1 _).mono zbc)).grown hg2 (by simp; omega) (fun k e => by cases e; exact KH.out.2.1)) | fail)
          have hdel := DelH_any (id % 24) w2 h2
          rw [hgr] at hdel
          refine hdel.mono ?_
          rintro e w3 ⟨rfl, h3, hk23, hb23⟩
          have HZ := (show Hid _ from And.intro hm2 (And.intro hc2 (And.intro hbw2 (And.intro h3 (And.intro hk23 hb23)))))
          clear hdel hm2 hg2 hc2 hbw2 h2 h3 hk23 hb23
          go_wp2
          go_ret2
          obtain ⟨hm2, hc2, hbw2, h3, hk23, hb23⟩ := HZ.out
          refine ⟨delR (id % 24) rs, last, rfl, h3, ⟨KH.out.2.1, _, ((map_kept hm2 hk23).alter (fun _ => rfl) (by rw [hgs, len_delR])).le (by omega), ?_⟩, hbw2.trans hb23, by omega, by rw [len_delR]; omega⟩
          exact (Lp.del ((KH.out.2.2.1.kept (kept_alloc _ _)).cells hc2) (fun j => get_delR KH.out.1.2.1)).kept hk23
      · cases hgi : g (id % 24) with
        | some m =>
          go_wp2_with (first | (at_lookup; refine wpList_mlook_ok_some rfl _ _ 26 rfl 38 Tryd.underlying26 (zeroValueV _) M n g rs.length rfl hmH.out (id % 24) zwf rfl m hgi ?_; unfold mkV) | fail)
          refine (InsH_any x _ _ _ (HSt.below KH.out.1 (hB1 _)) (Lies.below (hB1 _) KH.out.2.2.2.1) (by omega) (by omega)).mono ?_
          rintro e w3 ⟨rfl, h3, hk23, hb23⟩
          have q3 : w3.heap[P]? = _ := hk23 P _ ((Below.heap_alloc wc _ P zP).trans KH.out.2.2.2.2.2) (fun _ e => by cases e) (fun _ e => by cases e)
          obtain ⟨y0, y1, y2, y3, y4, yf⟩ := row5 q3
          have hm3 : MapOn mkV w3 M n g rs.length := map_kept (hmA _) hk23
          have hgl : (g (last + 1)).isSome = false := by rw [KH.out.2.2.1.isSome, get_high KH.out.1.2.2.1 (by omega)]; rfl
          have hl3 : Lp w3 g rs := (KH.out.2.2.1.kept (kept_alloc _ _)).kept hk23
          have hlx3 : Lies 3 w3 x (.slice al x.list.length cl) (.slice af x.fields.length cf) := (Lies.below (hB1 _) KH.out.2.2.2.1).kept hk23
          have HZ := (show Hid _ from And.intro h3 (And.intro hl3 (And.intro hlx3 (And.intro ((KH.out.2.2.2.2.1.mono hbase).trans ((hB1 _).mono zbc) |>.trans hb23) (And.intro KH.out.1.2.2.1 KH.out.2.1)))))
          clear h3 hl3 hlx3 q3 hk23 hb23 KH hmA hB1
          go_wp2_with (first | (at_mapUpdate; refine wpList_mput rfl _ _ _ 26 rfl 38 Tryd.underlying26 M n g rs.length rfl hm3 hml (last + 1) zwl (by first | rfl | simp [Act.eval, zl0]) ⟨x, al, cl, af, cf⟩ (by first | rfl | simp [Act.eval, Act.put, mkV]) ?_; intro w2 hm2 hg2; skip) | fail)
          go_ret2
          obtain ⟨h3, hl3, hlx3, hb3, hu, hM⟩ := HZ.out
          have hc2 := cells_put hm3 hg2
          refine ⟨rs ++ [(last + 1, x)], last + 1, by simp [zl0], h3.cells hc2, ⟨hM, _, hm2.alter (fun _ => rfl) (by rw [hgl]; simp), ?_⟩, hb3.grown hg2 (by have := h3.base_le; omega) (fun k e => by cases e; exact hM), by omega, by simp⟩
          exact Lp.put (hl3.cells hc2) (hlx3.cells hc2) (fun j => get_appR hu)
        | none =>
          go_wp2_with (first | (at_lookup; refine wpList_mlook_ok_none rfl _ _ 26 rfl 38 Tryd.underlying26 (zeroValueV _) M n g rs.length rfl hmH.out (id % 24) zwf rfl hgi ?_) | fail)
          refine (InsH_any x _ _ _ (HSt.below KH.out.1 (hB1 _)) (Lies.below (hB1 _) KH.out.2.2.2.1) (by omega) (by omega)).mono ?_
          rintro e w3 ⟨rfl, h3, hk23, hb23⟩
          have q3 : w3.heap[P]? = _ := hk23 P _ ((Below.heap_alloc wc _ P zP).trans KH.out.2.2.2.2.2) (fun _ e => by cases e) (fun _ e => by cases e)
          obtain ⟨y0, y1, y2, y3, y4, yf⟩ := row5 q3
          have hm3 : MapOn mkV w3 M n g rs.length := map_kept (hmA _) hk23
          have hgl : (g (last + 1)).isSome = false := by rw [KH.out.2.2.1.isSome, get_high KH.out.1.2.2.1 (by omega)]; rfl
          have hl3 : Lp w3 g rs := (KH.out.2.2.1.kept (kept_alloc _ _)).kept hk23
          have hlx3 : Lies 3 w3 x (.slice al x.list.length cl) (.slice af x.fields.length cf) := (Lies.below (hB1 _) KH.out.2.2.2.1).kept hk23
          have HZ := (show Hid _ from And.intro h3 (And.intro hl3 (And.intro hlx3 (And.intro ((KH.out.2.2.2.2.1.mono hbase).trans ((hB1 _).mono zbc) |>.trans hb23) (And.intro KH.out.1.2.2.1 KH.out.2.1)))))
          clear h3 hl3 hlx3 q3 hk23 hb23 KH hmA hB1
          go_wp2_with (first | (at_mapUpdate; refine wpList_mput rfl _ _ _ 26 rfl 38 Tryd.underlying26 M n g rs.length rfl hm3 hml (last + 1) zwl (by first | rfl | simp [Act.eval, zl0]) ⟨x, al, cl, af, cf⟩ (by first | rfl | simp [Act.eval, Act.put, mkV]) ?_; intro w2 hm2 hg2; skip) | fail)
          go_ret2
          obtain ⟨h3, hl3, hlx3, hb3, hu, hM⟩ := HZ.out
          have hc2 := cells_put hm3 hg2
          refine ⟨rs ++ [(last + 1, x)], last + 1, by simp [zl0], h3.cells hc2, ⟨hM, _, hm2.alter (fun _ => rfl) (by rw [hgl]; simp), ?_⟩, hb3.grown hg2 (by have := h3.base_le; omega) (fun k e => by cases e; exact hM), by omega, by simp⟩
          exact Lp.put (hl3.cells hc2) (hlx3.cells hc2) (fun j => get_appR hu)
end Go.Proofs.YtjihfbahcebljaaDoor
