/-
  The law's many by its contract: objects. Conditions: as stated.
-/
import Derived.Test.YtdcaohnaiepllaaGreatDoorJQ6
import Derived.Test.YtdcaohnaiepllaaGreatDoorU14
namespace Go.Proofs.YtdcaohnaiepllaaGreatDoor
open Go.RowKit Go.Extern.Stop Go.Stop Go.Extern

def liftQ (r : Except Int (List (ByteArray × V) × List UInt8)) : Except Int (V × List UInt8) :=
  match r with
  | .error e => .error e
  | .ok p => .ok (objV p.1, p.2)
/-- what stays to be read of an object. -/
structure ORd (s : ByteArray) (n : Nat) (RES : Except Int (V × List UInt8)) (k : Nat) (fs : List (ByteArray × V)) : Prop where
  sk : skip (s.data.toList.drop k) = s.data.toList.drop k
  res : ∃ m, (s.data.toList.drop k).length < m ∧ RES = liftQ (membsP (valueW n) m fs (s.data.toList.drop k))
section
variable {s : ByteArray} {n : Nat} {RES : Except Int (V × List UInt8)} {k : Nat} {fs fs' : List (ByteArray × V)} {r : List UInt8}
theorem ORd.bad (h : ORd s n RES k fs) {d : Int} (hv : fieldP (valueW n) fs (s.data.toList.drop k) = .error d) : RES = .error d := by
  obtain ⟨m, hm, e⟩ := h.res
  obtain ⟨m, rfl⟩ : ∃ m', m = m' + 1 := ⟨m - 1, by omega⟩
  rw [e]
  simp only [membsP, hv]
  rfl
theorem ORd.fin (h : ORd s n RES k fs) (hv : fieldP (valueW n) fs (s.data.toList.drop k) = .ok (fs', r)) (he : hd (skip r) = 125) : RES = .ok (objV fs', (skip r).drop 1) := by
  obtain ⟨m, hm, e⟩ := h.res
  obtain ⟨m, rfl⟩ : ∃ m', m = m' + 1 := ⟨m - 1, by omega⟩
  rw [e]
  simp only [membsP, hv, endsP, if_pos he]
  rfl
theorem ORd.no (h : ORd s n RES k fs) (hv : fieldP (valueW n) fs (s.data.toList.drop k) = .ok (fs', r)) (he : ¬ hd (skip r) = 125) (hc : ¬ hd (skip r) = 44) : RES = .error 1 := by
  obtain ⟨m, hm, e⟩ := h.res
  obtain ⟨m, rfl⟩ : ∃ m', m = m' + 1 := ⟨m - 1, by omega⟩
  rw [e]
  simp only [membsP, hv, endsP, if_neg he, if_neg hc]
  rfl
theorem membsW_skip (n m : Nat) (fs : List (ByteArray × V)) (l : List UInt8) : membsP (valueW n) m fs (skip l) = membsP (valueW n) m fs l := by
  cases m with
  | zero => rfl
  | succ m => simp only [membsP, fieldP, skip_skip]
theorem ORd.next (h : ORd s n RES k fs) (hv : fieldP (valueW n) fs (s.data.toList.drop k) = .ok (fs', r)) (hr : r.length ≤ (s.data.toList.drop k).length) (he : ¬ hd (skip r) = 125) (hc : hd (skip r) = 44) {k2 : Nat} (hk : s.data.toList.drop k2 = skip ((skip r).drop 1)) : ORd s n RES k2 fs' := by
  obtain ⟨m, hm, e⟩ := h.res
  obtain ⟨m, rfl⟩ : ∃ m', m = m' + 1 := ⟨m - 1, by omega⟩
  refine ⟨by rw [hk, skip_skip], m, ?_, ?_⟩
  · rw [hk]
    have h1 := skip_len ((skip r).drop 1)
    have h2 := skip_len r
    have h3 := hd_drop_lt hc (by decide)
    rw [List.length_drop] at h1
    omega
  · rw [e]
    simp only [membsP, hv, endsP, if_neg he, if_pos hc]
    rw [hk, membsW_skip]
end
def set6W (W : World) (B : Nat) (a0 a1 a2 a3 a4 a5 : Value) : World := (((((W.setCell ⟨B, 0, none⟩ a0).setCell ⟨B, 1, none⟩ a1).setCell ⟨B, 2, none⟩ a2).setCell ⟨B, 3, none⟩ a3).setCell ⟨B, 4, none⟩ a4).setCell ⟨B, 5, none⟩ a5
theorem set6W_ne (W : World) (B : Nat) (a0 a1 a2 a3 a4 a5 : Value) {k : Nat} (h : k ≠ B) : (set6W W B a0 a1 a2 a3 a4 a5).heap[k]? = W.heap[k]? := by
  unfold set6W
  rw [heap_setCell_ne _ _ _ h, heap_setCell_ne _ _ _ h, heap_setCell_ne _ _ _ h, heap_setCell_ne _ _ _ h, heap_setCell_ne _ _ _ h, heap_setCell_ne _ _ _ h]
theorem set6W_size (W : World) (B : Nat) (a0 a1 a2 a3 a4 a5 : Value) : (set6W W B a0 a1 a2 a3 a4 a5).heap.size = W.heap.size := by simp [set6W]
theorem set6W_below {w W : World} {C B : Nat} (hb : Below C w W) (h : C ≤ B) (a0 a1 a2 a3 a4 a5 : Value) : Below C w (set6W W B a0 a1 a2 a3 a4 a5) :=
  (((((hb.setCell h _).setCell h _).setCell h _).setCell h _).setCell h _).setCell h _
theorem obj_rep {n : Nat} {w w4 : World} {fl : Value} {es : List Fl} {a0 a1 a2 a3 a4 : Value} (hG : GrowsFJ n w4 (w.heap.size + 1) fl es) (hl : es.length ≤ 1000000) :
    Rep (fun b => w.heap.size ≤ b) (n + 1) (set5W w4 (w.heap.size + 1) 0 1 2 3 4 a0 a1 a2 a3 a4) (objV (es.map Fl.pair)) (.slice none 0 0) fl := by
  have hne : ∀ b, w.heap.size + 1 < b → (set5W w4 (w.heap.size + 1) 0 1 2 3 4 a0 a1 a2 a3 a4).heap[b]? = w4.heap[b]? := fun b hb => set5W_ne _ _ _ _ _ _ _ _ _ _ _ _ (by omega)
  have hG' := hG.move (W' := set5W w4 (w.heap.size + 1) 0 1 2 3 4 a0 a1 a2 a3 a4) fun b hb _ => hne b hb
  exact ⟨⟨[], rfl, RowAt.nil, fun e he => by cases he⟩, ⟨es, rfl, ⟨ownsRow_move (fun b _ _ => ⟨Nat.zero_le _, rfl⟩) hG'.own, by omega, fun b hb => by have := (hG'.own.lt b hb).1; show w.heap.size ≤ b; omega⟩, fun e he => (hG'.rep e he).move fun b hb _ => ⟨by show w.heap.size ≤ b; omega, rfl⟩⟩⟩
theorem grows_row {n B : Nat} {W : World} {fl : Value} {es : List Fl} (hG : GrowsFJ n W B fl es) (hl : es.length ≤ 1000000) : RowAt (fun _ => True) W 49 6 fl es.length (encFs es) :=
  ⟨ownsRow_move (fun b _ _ => ⟨Nat.zero_le _, rfl⟩) hG.own, by omega, fun _ _ => trivial⟩
theorem grows_shape {n B : Nat} {W : World} {fl : Value} {es : List Fl} (hG : GrowsFJ n W B fl es) : ∀ e ∈ es, ∃ a1 n1 c1 a2 n2 c2, e.l = .slice a1 n1 c1 ∧ e.f = .slice a2 n2 c2 := fun e he => by
  obtain ⟨al, cl, af, cf, h1, h2⟩ := (hG.rep e he).slices
  exact ⟨_, _, _, _, _, _, h1, h2⟩

set_option maxRecDepth 100000 in
set_option maxHeartbeats 16000000 in
theorem many_obj (n : Nat) (D : Int) (hD : 0 ≤ D) (hD2 : D ≤ 100) (ih : ReadAt n (D + 1)) (s : ByteArray) (hs : s.size ≤ 4096) (k : Nat) (hk : k ≤ s.size) (w : World) :
    Calls Tryz.prog 40 #[.string s, .int .i64 (k : Int), .int .i64 D, .agg #[.int .i64 5, .int .i64 0, .string ⟨#[]⟩, .slice none 0 0, .slice none 0 0], .string ⟨#[125]⟩] w (RdA s (n + 1) w (objP (valueW n) (s.data.toList.drop k))) := by
  obtain ⟨V0, hV0⟩ : ∃ O, O = Obj.cells #[.int .i64 5, .int .i64 0, .string ⟨#[]⟩, .slice none 0 0, .slice none 0 0] 31 := ⟨_, rfl⟩
  obtain ⟨Z0, hZ0⟩ : ∃ O, O = Obj.cells #[.int .i64 0, .int .i64 0, .string ⟨#[]⟩, .slice none 0 0, .slice none 0 0] 31 := ⟨_, rfl⟩
  obtain ⟨W, hW⟩ : ∃ W, W = (w.alloc V0).alloc Z0 := ⟨_, rfl⟩
  have hM : MSt 5 w W (.slice none 0 0) (.slice none 0 0) := by
    refine ⟨?_, ?_, ?_⟩
    · rw [hW]; exact ((Below.refl _ _).alloc (Nat.le_refl _) _).alloc (by simp) _
    · rw [hW, heap_alloc2_old, hV0]
    · rw [hW, heap_alloc2_new, hZ0]
  have hWs : W.heap.size = w.heap.size + 2 := by rw [hW]; simp
  obtain ⟨RES, hRES⟩ : ∃ R, objP (valueW n) (s.data.toList.drop k) = R := ⟨_, rfl⟩
  rw [hRES]
  have hbl := blank_any s hs k hk W
  have HI := (show Hid _ from And.intro ih (And.intro hRES (And.intro hM hWs)))
  rw [hW, hV0, hZ0] at hbl
  clear ih hRES hM
  go_enter Tryz.func40, Tryz.ntmps40
  go_wp2_with fail
  refine hbl.mono ?_
  rintro e w1 ⟨⟨k1, rfl, hk0, hk1, hd1⟩, hw1⟩
  rw [← hV0, ← hZ0, ← hW] at hw1
  rw [hw1]
  clear hw1 hbl hW hV0 hZ0 V0 Z0
  have his := is_any s hs k1 hk1 ⟨#[125]⟩ (by decide) W
  rw [show (⟨#[125]⟩ : ByteArray).data.toList = [125] from rfl, pref_one _ 125 (by decide), show (125 : UInt8).toNat = 125 from rfl, hd1] at his
  obtain ⟨b1, hb1⟩ : ∃ b, decide (hd (skip (s.data.toList.drop k)) = 125) = b := ⟨_, rfl⟩
  rw [hb1] at his
  have H1 := (show Hid _ from And.intro hd1 (And.intro hb1 hk0))
  clear hd1 hb1 hk0
  go_wp2_with fail
  refine his.mono ?_
  rintro e w2 ⟨rfl, hw2⟩
  rw [hw2]
  clear hw2 his
  cases b1
  · have hL : ORd s n RES k1 [] := by
      obtain ⟨hd1, hb1, _⟩ := H1.out
      refine ⟨by rw [hd1, skip_skip], (skip (s.data.toList.drop k)).length + 1, by rw [hd1]; omega, ?_⟩
      rw [← HI.out.2.1, hd1]
      unfold objP
      rw [if_neg (of_decide_eq_false hb1)]
      rfl
    have HL := (show Hid _ from hL)
    clear hL
    go_wp2_with fail
    go_loopg [1, 13, 14, 15] s.size (fun gg at' _ _ _ wr => ∃ (q : Nat) (fs : List Fl) (fl : Value), q ≤ s.size ∧ s.size - q ≤ gg ∧ at' = .int .i64 (q : Int) ∧ fs.length ≤ q ∧ Aside (ORd s n RES q (fs.map Fl.pair)) ∧ Aside (MSt 5 w wr (.slice none 0 0) fl ∧ GrowsFJ n wr (w.heap.size + 1) fl fs ∧ w.heap.size + 2 ≤ wr.heap.size))
    case atStart => exact ⟨k1, [], .slice none 0 0, hk1, by omega, rfl, by simp, HL.out, HI.out.2.2.1, ⟨World.ownsRow_nil _ _ _ _, fun e he => by cases he⟩, by rw [HI.out.2.2.2]; exact Nat.le_refl _⟩
    case round =>
      obtain ⟨q, fs, fl, hq, hgg, rfl, hesq, hL, hM⟩ := hrel
      obtain ⟨hMs, hG, hsz⟩ := hM.out
      obtain ⟨sa, sc, rfl⟩ := ownsRow_slice hG.own
      obtain ⟨j0, j1, j2, j3, j4, jf⟩ := row5 hMs.row8
      have hlt8 := lt_of_heap hMs.row8
      obtain ⟨ZX, hZX⟩ : ∃ O, O = Obj.cells #[.string ⟨#[]⟩, .int .i64 0, .int .i64 0, .string ⟨#[]⟩, .slice none 0 0, .slice none 0 0] 49 := ⟨_, rfl⟩
      have hBX : Below wr.heap.size wr (wr.alloc ZX) := (Below.refl _ _).alloc (Nat.le_refl _) _
      have hGX : GrowsFJ n (wr.alloc ZX) (w.heap.size + 1) (.slice sa fs.length sc) fs := hG.move fun b _ hl => hBX.block b hl
      have hread := lfield_any n (D + 1) HI.out.1 s hs q hq hL.out.sk fs (.slice sa fs.length sc) (wr.alloc ZX) (grows_row hGX (by omega)) (grows_shape hGX)
      have r8X := (hBX.block _ hlt8).trans hMs.row8
      obtain ⟨J0, J1, J2, J3, J4, Jf⟩ := row5 r8X
      have hlt8X := lt_of_heap r8X
      rw [hZX] at hread J0 J1 J2 J3 J4 hlt8X
      have hDw : wrap64 (D + 1) = D + 1 := by unfold wrap64; omega
      have HZ := (show Hid _ from And.intro hBX hZX)
      clear hBX hZX hMs r8X hGX
      go_wp2_with fail
      refine hread.mono ?_
      rintro e w1 ⟨nm, x, al, nl, cl, af, nf, cf, j, c, rfl, hb1, hr⟩
      obtain ⟨hBX, hZX⟩ := HZ.out
      rw [← hZX] at hb1 hr
      obtain ⟨hMs, -, -⟩ := hM.out
      have hb01 : Below wr.heap.size wr w1 := hBX.trans (hb1.mono hBX.size)
      have hM1 := hMs.later hb01
      have rX1 : w1.heap[wr.heap.size]? = some ZX := (hb1.block _ (by simp)).trans (heap_alloc_new wr _)
      rw [hZX] at rX1
      obtain ⟨m0, m1, m2, m3, m4, m5, mf⟩ := row6 rX1
      obtain ⟨i0, i1, i2, i3, i4, hif⟩ := row5 hM1.row8
      have hltX := lt_of_heap rX1
      have hlt8' := lt_of_heap hM1.row8
      have hne1 : w.heap.size ≠ wr.heap.size := by omega
      have hne2 : wr.heap.size ≠ w.heap.size := by omega
      obtain ⟨S6, hS6⟩ : ∃ W, W = set6W w1 wr.heap.size (.string nm) (.int .i64 x.kind) (.int .i64 x.num) (.string x.text) (.slice al nl cl) (.slice af nf cf) := ⟨_, rfl⟩
      have hS6s : S6.heap.size = w1.heap.size := by rw [hS6, set6W_size]
      have hS6n : ∀ b, b ≠ wr.heap.size → S6.heap[b]? = w1.heap[b]? := fun b hb => by rw [hS6]; exact set6W_ne _ _ _ _ _ _ _ _ hb
      have hzw : wr.heap.size < w1.heap.size := hltX
      have hG2 : GrowsFJ n S6 (w.heap.size + 1) (.slice sa fs.length sc) fs := by
        obtain ⟨_, hG, _⟩ := hM.out
        refine ⟨ownsRow_move (fun b hb hl => ⟨(hG.own.lt b hb).1, (hS6n b (by omega)).trans (hb01.block b hl)⟩) hG.own, fun e he => (hG.rep e he).move fun b hb hl => ⟨hb, (hS6n b (by omega)).trans (hb01.block b hl)⟩⟩
      have hMS : MSt 5 w S6 (.slice none 0 0) (.slice sa fs.length sc) := by
        refine ⟨?_, by rw [hS6n _ (by omega)]; exact hM1.row8, by rw [hS6n _ (by omega)]; exact hM1.row10⟩
        rw [hS6]
        exact set6W_below hM1.below (by omega) _ _ _ _ _ _
      have hlaid := laid_any nm x al nl cl af nf cf fs (.slice sa fs.length sc) S6 (grows_row hG2 (by omega)) (grows_shape hG2) (by omega)
      have hrr : Hid (FdR s n (wr.alloc ZX) w1 (fs.map Fl.pair) nm x (.slice al nl cl) (.slice af nf cf) j c (fieldP (valueW n) (fs.map Fl.pair) (s.data.toList.drop q))) := hr
      have HG := (show Hid _ from And.intro hG2 (And.intro hS6s (And.intro hS6n (And.intro hS6 hMS))))
      rw [hS6] at hlaid
      unfold set6W at hlaid
      clear hread hb1 hr hBX hZX hMs hb01 hM1 rX1 hG2 hS6s hS6n hMS
      go_wp2_with fail
      refine hlaid.mono ?_
      rintro e w3 ⟨s', rfl, hOw⟩
      obtain ⟨ga, gc, rfl⟩ := ownsRow_slice hOw.own
      obtain ⟨hG2, hS6s, hS6n, hS6, hMS⟩ := HG.out
      have hOw' : OwF S6 (.slice ga (insL ⟨nm, x, .slice al nl cl, .slice af nf cf⟩ fs).length gc) (insL ⟨nm, x, .slice al nl cl, .slice af nf cf⟩ fs) w3 := by rw [hS6]; exact hOw
      have hM3 := hMS.later hOw'.below
      obtain ⟨z0, z1, z2, z3, z4, zf⟩ := row5 hM3.row8
      obtain ⟨y0, y1, y2, y3, y4, yf⟩ := row5 hM3.row10
      have zz3 := lt_of_heap hM3.row8
      have zz10 := lt_of_heap hM3.row10
      rw [insL_len] at hOw' ⊢
      have Y := (show Hid _ from And.intro hM3 hOw')
      clear hlaid hOw hG2 hS6s hS6n hS6 hMS hM3 hOw'
      obtain ⟨res, hres⟩ : ∃ r, fieldP (valueW n) (fs.map Fl.pair) (s.data.toList.drop q) = r := ⟨_, rfl⟩
      cases res with
      | error d =>
        have hRd : RES = .error d := hL.out.bad hres
        have hcd : c = d ∧ ¬ d = 0 := by
          have := hrr.out
          rw [hres] at this
          exact this
        obtain ⟨rfl, hd0⟩ := hcd
        have ec : (c != 0) = true := by simpa using hd0
        subst hRd
        have HD := (show Hid _ from hd0)
        clear hrr hres hd0
        go_wp2_with fail
        refine bodyPost_ret (v := .tuple #[.agg #[.int .i64 5, .int .i64 0, .string ⟨#[]⟩, .slice none 0 0, .slice ga (fs.length + 1) gc], .int .i64 (j : Int), .int .i64 c]) (by simp [results, Tryz.results40, go_sem, y0, y1, y2, y3, y4]) rfl ⟨objV [], none, 0, 0, ga, fs.length + 1, gc, j, c, rfl, ?_, rfl, HD.out⟩
        have hk := Y.out.1.below
        repeat (with_reducible first | exact hk | refine qSetc ?_ (Nat.le_refl _) | refine qSetc ?_ (Nat.le_succ _))
      | ok p =>
        obtain ⟨fs', r⟩ := p
        have hro := hrr.out
        rw [hres] at hro
        obtain ⟨rfl, hfs', hgn, hjs, hjr, hrep⟩ := hro
        simp only at hjr hrep hfs'
        have htl := (field_tail (valueW_tail n) hres).len
        have hqj : q ≤ j := by
          simp only at htl
          rw [← hjr, List.length_drop, List.length_drop, ← size_list rfl] at htl
          omega
        have HP := (show Hid _ from And.intro hres (And.intro hjr (And.intro hrep (And.intro htl (And.intro hfs' hgn)))))
        clear hrr hres hjr hrep htl hfs' hgn
        go_wp2_with fail
        refine (blank_any s hs j hjs _).mono ?_
        rintro e w4 ⟨⟨k2, rfl, hjk2, hk2, hd2⟩, hw4⟩
        obtain ⟨hM3, hOw⟩ := Y.out
        obtain ⟨hG2, hS6s, hS6n, hS6, hMS⟩ := HG.out
        obtain ⟨hres, hjr, hrep, htl, hfs', hgn⟩ := HP.out
        have hM5 : MSt 5 w w4 (.slice none 0 0) (.slice ga (fs.length + 1) gc) := by
          rw [hw4]
          refine ⟨qSetc hM3.below (Nat.le_refl _), setc_row (i := 4) hM3.row8, ?_⟩
          rw [heap_setCell_ne _ _ _ (by simp)]
          exact hM3.row10
        have hG5 : GrowsFJ n w4 (w.heap.size + 1) (.slice ga (fs.length + 1) gc) (insL ⟨nm, x, .slice al nl cl, .slice af nf cf⟩ fs) := by
          have hob : ∀ b, (Value.slice ga (fs.length + 1) gc).ownBlock = some b → w1.heap.size ≤ b := fun b hb => by have := (hOw.own.lt b hb).1; omega
          have h3 : GrowsFJ n w3 (w.heap.size + 1) (.slice ga (fs.length + 1) gc) (insL ⟨nm, x, .slice al nl cl, .slice af nf cf⟩ fs) := by
            refine ⟨?_, fun e he => ?_⟩
            · have ho := hOw.own
              rw [insL_len] at ho ⊢
              exact ownsRow_move (fun b hb _ => ⟨by have := hob b hb; omega, rfl⟩) ho
            · rcases insL_mem he with rfl | he
              · exact hrep.move fun b hb hl => by
                  have hb : wr.heap.size + 1 ≤ b := by simpa using hb
                  exact ⟨⟨by omega, fun e => by have := hob b e; omega⟩, (hOw.below.block b (by omega)).trans (hS6n b (by omega))⟩
              · exact (hG2.rep e he).move fun b hb hl => ⟨⟨hb.1, fun e => by have := hob b e; omega⟩, hOw.below.block b hl⟩
          exact h3.move fun b hb _ => by rw [hw4]; exact heap_setCell_ne _ _ _ (by simp; omega)
        have hpair : (insL ⟨nm, x, .slice al nl cl, .slice af nf cf⟩ fs).map Fl.pair = fs' := by
          rw [insL_set _ _ hgn, hfs']
        have hilen := insL_len ⟨nm, x, .slice al nl cl, .slice af nf cf⟩ fs
        obtain ⟨gs, hgs⟩ : ∃ gs, insL ⟨nm, x, .slice al nl cl, .slice af nf cf⟩ fs = gs := ⟨_, rfl⟩
        rw [hgs] at hG5 hpair hilen
        have hsz4 : w.heap.size + 2 ≤ w4.heap.size := by have := lt_of_heap hM5.row10; omega
        rw [hjr] at hd2
        have his := is_any s hs k2 hk2 ⟨#[125]⟩ (by decide) w4
        rw [show (⟨#[125]⟩ : ByteArray).data.toList = [125] from rfl, pref_one _ 125 (by decide), show (125 : UInt8).toNat = 125 from rfl, hd2] at his
        obtain ⟨b1, hb1⟩ : ∃ b, decide (hd (skip r) = 125) = b := ⟨_, rfl⟩
        rw [hb1] at his
        obtain ⟨v0, v1, v2, v3, v4, vf⟩ := row5 hM5.row8
        obtain ⟨q0, q1, q2, q3, q4, qf⟩ := row5 hM5.row10
        have hl4 := lt_of_heap hM5.row8
        have hl4' := lt_of_heap hM5.row10
        have H5 := (show Hid _ from And.intro hM5 (And.intro hG5 (And.intro hd2 (And.intro hb1 (And.intro hsz4 (And.intro hpair hilen))))))
        clear hw4 hM3 hOw hG2 hS6s hS6n hS6 hMS hres hjr hrep htl hfs' hgn hM5 hG5 hd2 hb1 hsz4 hpair hilen hgs HG Y z0 z1 z2 z3 z4 zf y0 y1 y2 y3 y4 yf zz3 zz10 m0 m1 m2 m3 m4 m5 mf i0 i1 i2 i3 i4 hif j0 j1 j2 j3 j4 jf J0 J1 J2 J3 J4 Jf
        go_wp2_with fail
        refine his.mono ?_
        rintro e w5 ⟨rfl, hw5⟩
        rw [hw5]
        clear hw5 his
        cases b1
        · have his := is_any s hs k2 hk2 ⟨#[44]⟩ (by decide) w4
          rw [show (⟨#[44]⟩ : ByteArray).data.toList = [44] from rfl, pref_one _ 44 (by decide), show (44 : UInt8).toNat = 44 from rfl, H5.out.2.2.1] at his
          obtain ⟨b2, hb2⟩ : ∃ b, decide (hd (skip r) = 44) = b := ⟨_, rfl⟩
          rw [hb2] at his
          have HB2 := (show Hid _ from hb2)
          clear hb2
          go_wp2_with fail
          refine his.mono ?_
          rintro e w6 ⟨rfl, hw6⟩
          rw [hw6]
          clear hw6 his
          cases b2
          · have hR1 : RES = .error 1 := hL.out.no HP.out.1 (of_decide_eq_false H5.out.2.2.2.1) (of_decide_eq_false HB2.out)
            subst hR1
            go_wp2_with fail
            refine bodyPost_ret (v := .tuple #[.agg #[.int .i64 5, .int .i64 0, .string ⟨#[]⟩, .slice none 0 0, .slice ga (fs.length + 1) gc], .int .i64 (k2 : Int), .int .i64 1]) (by simp [results, Tryz.results40, go_sem, q0, q1, q2, q3, q4]) rfl ⟨objV [], none, 0, 0, ga, fs.length + 1, gc, k2, 1, rfl, ?_, rfl, by decide⟩
            have hk := H5.out.1.below
            repeat (with_reducible first | exact hk | refine qSetc ?_ (Nat.le_refl _) | refine qSetc ?_ (Nat.le_succ _))
          · have hk2l : k2 < s.size := by
              have h := hd_drop_lt (of_decide_eq_true HB2.out) (by decide)
              rw [← H5.out.2.2.1, List.length_drop, ← size_list rfl] at h
              omega
            have hbl := blank_any s hs (k2 + 1) (by omega) w4
            rw [show ((k2 + 1 : Nat) : Int) = (k2 : Int) + 1 from rfl] at hbl
            go_wp2_with fail
            refine hbl.mono ?_
            rintro e w7 ⟨⟨k3, rfl, hk23, hk3, hd3⟩, hw7⟩
            rw [hw7]
            clear hw7 hbl
            have HD3 := (show Hid _ from hd3)
            clear hd3
            go_wp2_with fail
            go_roundg (s.size - k3)
            case measure => omega
            case rel =>
              obtain ⟨hM5, hG5, hd2, hb1, hsz4, hpair, hilen⟩ := H5.out
              refine ⟨k3, gs, .slice ga (fs.length + 1) gc, hk3, Nat.le_refl _, rfl, by omega, ?_, hM5, hG5, hsz4⟩
              show ORd _ _ _ _ _
              rw [hpair]
              refine hL.out.next HP.out.1 HP.out.2.2.2.1 (of_decide_eq_false hb1) (of_decide_eq_true HB2.out) ?_
              rw [HD3.out, ← hd2, List.drop_drop]
        · have hk2l : k2 < s.size := by
            have h := hd_drop_lt (of_decide_eq_true H5.out.2.2.2.1) (by decide)
            rw [← H5.out.2.2.1, List.length_drop, ← size_list rfl] at h
            omega
          have hR1 : RES = .ok (objV (gs.map Fl.pair), (skip r).drop 1) := by
            rw [H5.out.2.2.2.2.2.1]
            exact hL.out.fin HP.out.1 (of_decide_eq_true H5.out.2.2.2.1)
          subst hR1
          go_wp2_with fail
          refine bodyPost_ret (v := .tuple #[.agg #[.int .i64 5, .int .i64 0, .string ⟨#[]⟩, .slice none 0 0, .slice ga (fs.length + 1) gc], .int .i64 ((k2 : Int) + 1), .int .i64 0]) (by simp [results, Tryz.results40, go_sem, q0, q1, q2, q3, q4]) rfl ⟨objV (gs.map Fl.pair), none, 0, 0, ga, fs.length + 1, gc, k2 + 1, 0, rfl, ?_, rfl, rfl, by omega, ?_, ?_⟩
          · have hk := H5.out.1.below
            repeat (with_reducible first | exact hk | refine qSetc ?_ (Nat.le_refl _) | refine qSetc ?_ (Nat.le_succ _))
          · rw [← H5.out.2.2.1, List.drop_drop]
          · obtain ⟨hM5, hG5, hd2, hb1, hsz4, hpair, hilen⟩ := H5.out
            exact obj_rep hG5 (by omega)
  · have hk1l : k1 < s.size := by
      have h := hd_drop_lt (of_decide_eq_true H1.out.2.1) (by decide)
      rw [← H1.out.1, List.length_drop, ← size_list rfl] at h
      omega
    have hR1 : RES = .ok (objV [], (skip (s.data.toList.drop k)).drop 1) := by
      rw [← HI.out.2.1]
      unfold objP
      rw [if_pos (of_decide_eq_true H1.out.2.1)]
    subst hR1
    have hM := HI.out.2.2.1
    obtain ⟨v0, v1, v2, v3, v4, vf⟩ := row5 hM.row8
    obtain ⟨q0, q1, q2, q3, q4, qf⟩ := row5 hM.row10
    have hl4 := lt_of_heap hM.row8
    have hl4' := lt_of_heap hM.row10
    clear hM
    go_wp2_with fail
    refine bodyPost_ret (v := .tuple #[.agg #[.int .i64 5, .int .i64 0, .string ⟨#[]⟩, .slice none 0 0, .slice none 0 0], .int .i64 ((k1 : Int) + 1), .int .i64 0]) (by simp [results, Tryz.results40, go_sem, q0, q1, q2, q3, q4]) rfl ⟨objV [], none, 0, 0, none, 0, 0, k1 + 1, 0, rfl, ?_, rfl, rfl, by omega, ?_, Rep.le (n := 0) ⟨rfl, rfl, rfl, rfl⟩ (Nat.zero_le _)⟩
    · have hk := HI.out.2.2.1.below
      repeat (with_reducible first | exact hk | refine qSetc ?_ (Nat.le_refl _) | refine qSetc ?_ (Nat.le_succ _))
    · rw [← H1.out.1, List.drop_drop]
end Go.Proofs.YtdcaohnaiepllaaGreatDoor
