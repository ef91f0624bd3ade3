/-
  The law's field by its contract. Conditions: as stated.
-/
import Derived.Test.YtdcaohnaiepllaaGreatDoorJQ5
import Derived.Test.YtdcaohnaiepllaaGreatDoorU11
namespace Go.Proofs.YtdcaohnaiepllaaGreatDoor
open Go.RowKit Go.Extern.Stop Go.Stop Go.Extern

theorem rd_pos : ∀ (n : Nat) (l out : List UInt8) (k : Nat) (o : List UInt8) (m : Nat), l.length ≤ n → rd l out k = some (o, m) → k < m
  | n, [], out, k, o, m, _, h => by rw [rd_nil] at h; cases h
  | 0, b :: t, out, k, o, m, hn, h => by simp at hn
  | n + 1, b :: t, out, k, o, m, hn, h => by
    by_cases hb : b.toNat = 34
    · rw [rd_quote b t out k hb] at h
      cases h
      omega
    · cases h1 : one (b :: t) with
      | none => rw [rd_none b t out k hb h1] at h; cases h
      | some cw =>
        obtain ⟨c, w⟩ := cw
        rw [rd_some b t out k c w hb h1] at h
        have hp := one_pos h1
        have hl := one_len (by simp) h1
        have := rd_pos n _ _ _ _ _ (by rw [List.length_drop]; omega) h
        omega
theorem readL_pos {l o : List UInt8} {m : Nat} (h : readL l = some (o, m)) : 0 < m := by
  cases l with
  | nil => cases h
  | cons b t =>
    simp only [readL] at h
    split at h
    · have := rd_pos t.length t [] 1 o m (Nat.le_refl _) h
      omega
    · cases h
theorem get_none_of {nm : ByteArray} : ∀ {xs : List Fl}, (∀ e ∈ xs, ¬ cmpT e.name nm = 0) → getF nm (xs.map Fl.pair) = none
  | [], _ => rfl
  | x :: xs, h => by
    rw [List.map_cons, getF_cons]
    split
    · rename_i hx
      exact absurd hx (h x (by simp))
    exact get_none_of fun e he => h e (List.mem_cons_of_mem _ he)
theorem get_some_of {nm : ByteArray} : ∀ {xs : List Fl} {e : Fl}, e ∈ xs → cmpT e.name nm = 0 → (getF nm (xs.map Fl.pair)).isSome = true
  | x :: xs, e, he, h => by
    rw [List.map_cons, getF_cons]
    split
    · rfl
    · rename_i hx
      rcases List.mem_cons.1 he with rfl | he
      · exact absurd h hx
      · exact get_some_of he h

theorem rep_setc {ok : Nat → Prop} {n : Nat} {w : World} {x : V} {l f : Value} {c o : Nat} {v : Value} (h : Rep ok n w x l f) (hc : ¬ ok c) : Rep ok n (w.setCell ⟨c, o, none⟩ v) x l f := h.move fun b hb _ => ⟨hb, heap_setCell_ne _ _ _ (by rintro rfl; exact hc hb)⟩
theorem rep_al {ok : Nat → Prop} {n : Nat} {w : World} {x : V} {l f : Value} {o : Obj} (h : Rep ok n w x l f) : Rep ok n (w.alloc o) x l f := h.move fun b hb hl => ⟨hb, Below.heap_alloc _ _ b hl⟩

/-- what field answers. -/
def FdR (s : ByteArray) (n : Nat) (w w' : World) (fs : List (ByteArray × V)) (nm : ByteArray) (x : V) (l f : Value) (j : Nat) (c : Int) : Except Int (List (ByteArray × V) × List UInt8) → Prop
  | .ok p => c = 0 ∧ p.1 = setF nm x fs ∧ getF nm fs = none ∧ j ≤ s.size ∧ s.data.toList.drop j = p.2 ∧ Rep (fun b => w.heap.size ≤ b) n w' x l f
  | .error d => c = d ∧ ¬ d = 0
def FdA (s : ByteArray) (n : Nat) (w : World) (fs : List (ByteArray × V)) (res : Except Int (List (ByteArray × V) × List UInt8)) (e : Ending) (w' : World) : Prop :=
  ∃ (nm : ByteArray) (x : V) (al : Option Addr) (nl cl : Nat) (af : Option Addr) (nf cf : Nat) (j : Nat) (c : Int), e = .returned (.tuple #[.agg #[.string nm, .int .i64 x.kind, .int .i64 x.num, .string x.text, .slice al nl cl, .slice af nf cf], .int .i64 (j : Int), .int .i64 c]) ∧ Below w.heap.size w w' ∧ FdR s n w w' fs nm x (.slice al nl cl) (.slice af nf cf) j c res
theorem fd_bad {s : ByteArray} {n : Nat} {w w' : World} {fs : List (ByteArray × V)} (k : Nat) (d : Int) (hd : ¬ d = 0) (hb : Below w.heap.size w w') : FdA s n w fs (.error d) (.returned (.tuple #[.agg #[.string ⟨#[]⟩, .int .i64 0, .int .i64 0, .string ⟨#[]⟩, .slice none 0 0, .slice none 0 0], .int .i64 (k : Int), .int .i64 d])) w' :=
  ⟨⟨#[]⟩, nulV, none, 0, 0, none, 0, 0, k, d, rfl, hb, rfl, hd⟩

set_option maxRecDepth 100000 in
set_option maxHeartbeats 16000000 in
theorem lfield_any (n : Nat) (D : Int) (ih : ReadAt n D) (s : ByteArray) (hs : s.size ≤ 4096) (k : Nat) (hk : k ≤ s.size) (hsk : skip (s.data.toList.drop k) = s.data.toList.drop k) (xs : List Fl) (sl : Value) (w : World) (hrow : RowAt (fun _ => True) w 49 6 sl xs.length (encFs xs)) (hsh : ∀ e ∈ xs, ∃ a1 n1 c1 a2 n2 c2, e.l = .slice a1 n1 c1 ∧ e.f = .slice a2 n2 c2) :
    Calls Tryz.prog 69 #[.string s, .int .i64 (k : Int), .int .i64 D, sl] w (FdA s n w (xs.map Fl.pair) (fieldP (valueW n) (xs.map Fl.pair) (s.data.toList.drop k))) := by
  obtain ⟨aa, ca, rfl⟩ := hrow.slice
  have na := hrow.2.1
  obtain ⟨RES, hRES⟩ : ∃ R, fieldP (valueW n) (xs.map Fl.pair) (s.data.toList.drop k) = R := ⟨_, rfl⟩
  rw [hRES]
  unfold fieldP at hRES
  rw [hsk] at hRES
  obtain ⟨Z0, hZ0⟩ : ∃ O, O = Obj.cells #[.string ⟨#[]⟩, .int .i64 0, .int .i64 0, .string ⟨#[]⟩, .slice none 0 0, .slice none 0 0] 49 := ⟨_, rfl⟩
  have hBZ : Below w.heap.size w (w.alloc Z0) := (Below.refl _ _).alloc (Nat.le_refl _) _
  have rZ : (w.alloc Z0).heap[w.heap.size]? = some (.cells #[.string ⟨#[]⟩, .int .i64 0, .int .i64 0, .string ⟨#[]⟩, .slice none 0 0, .slice none 0 0] 49) := by rw [heap_alloc_new, hZ0]
  obtain ⟨rq, hrq⟩ : ∃ r, readL (s.data.toList.drop k) = r := ⟨_, rfl⟩
  rw [hrq] at hRES
  have HH := (show Hid _ from And.intro ih (And.intro hrow (And.intro hsh (And.intro hBZ (And.intro rZ (And.intro hZ0 hrq))))))
  clear ih hrow hsh hsk
  by_cases hlt : k < s.size
  · have zk : (k : Int) < (s.size : Int) := by omega
    have zk0 : (0 : Int) ≤ (k : Int) := by omega
    have zk1 : (k : Int) ≤ (s.size : Int) := by omega
    have hE : (s.extract k s.size).data.toList = s.data.toList.drop k := by
      rw [ByteArray.data_extract, Array.toList_extract, List.extract_eq_take_drop]
      exact List.take_of_length_le (by rw [List.length_drop, ← size_list rfl]; omega)
    have hEz : (s.extract k s.size).size ≤ 10000 := by rw [size_list hE, List.length_drop, ← size_list rfl]; omega
    have hrd := Read_any (s.extract k s.size) hEz (w.alloc Z0)
    rw [hE, hrq, hZ0] at hrd
    clear hBZ rZ hZ0 hrq hE hEz
    go_enter Tryz.func69, Tryz.ntmps69
    go_wp2_with fail
    refine hrd.mono ?_
    rintro e w1 ⟨rfl, hb1⟩
    obtain ⟨ih, hrow, hsh, hBZ, rZ, hZ0, hrq⟩ := HH.out
    rw [← hZ0] at hb1
    have hB1 := hBZ.trans (hb1.mono hBZ.size)
    have r1 := (hb1.block w.heap.size (by simp)).trans rZ
    obtain ⟨g0, g1, g2, g3, g4, g5, gf⟩ := row6 r1
    have hl1 := lt_of_heap r1
    have H1 := (show Hid _ from And.intro hB1 r1)
    clear hrd hb1 hB1 r1 ih hrow hsh hBZ rZ hZ0 hrq
    cases rq with
    | none =>
      simp only [strI]
      have hR1 : RES = .error 1 := hRES.symm
      subst hR1
      clear hRES
      go_wp2_with fail
      refine bodyPost_ret (v := .tuple #[.agg #[.string ⟨#[]⟩, .int .i64 0, .int .i64 0, .string ⟨#[]⟩, .slice none 0 0, .slice none 0 0], .int .i64 (k : Int), .int .i64 1]) (by simp [results, Tryz.results69, go_sem, g0, g1, g2, g3, g4, g5]) rfl (fd_bad k 1 (by decide) ?_)
      have hk := H1.out.1
      repeat (with_reducible first | exact hk | refine qSetc ?_ (Nat.le_refl _))
    | some pq =>
      obtain ⟨o, r2⟩ := pq
      simp only [strI]
      simp only at hRES
      obtain ⟨NM, hNM⟩ : ∃ N : ByteArray, (⟨o.toArray⟩ : ByteArray) = N := ⟨_, rfl⟩
      rw [hNM] at hRES ⊢
      have hr2 := readL_pos HH.out.2.2.2.2.2.2
      have hr2l := readL_bound HH.out.2.2.2.2.2.2
      rw [List.length_drop, ← size_list rfl] at hr2l
      have e0 : ((r2 : Int) == 0) = false := by simp; omega
      have HR := (show Hid _ from hRES)
      clear hRES hNM
      go_wp2_with fail
      go_loopg [14, 35] xs.length (fun gg _ i wr => ∃ q : Nat, q ≤ xs.length ∧ xs.length - q ≤ gg ∧ i = .int .i64 (q : Int) ∧ Aside (∀ e ∈ xs.take q, ¬ cmpT e.name NM = 0) ∧ Aside (Below w1.heap.size w1 wr))
      case atStart => exact ⟨0, Nat.zero_le _, by omega, rfl, (fun e he => by simp at he), Below.refl _ _⟩
      case round =>
        obtain ⟨q, hq, hgg, rfl, hA, hB⟩ := hrel
        have r1 := (hB.out.block _ (lt_of_heap H1.out.2)).trans H1.out.2
        obtain ⟨G0, G1, G2, G3, G4, G5, Gf⟩ := row6 r1
        have hlr := lt_of_heap r1
        by_cases hlq : q < xs.length
        · obtain ⟨ih, hrow, hsh, hBZ, rZ, hZ0, hrq⟩ := HH.out
          obtain ⟨b0, c', e1, hb0, _, hc1, hc2, _⟩ := hrow.cells (by omega)
          simp only [Value.slice.injEq, true_and] at e1
          obtain ⟨rfl, rfl⟩ := e1
          obtain ⟨⟨xn, xv, xl, xf⟩, hx⟩ : ∃ x, xs[q]? = some x := ⟨_, List.getElem?_eq_getElem hlq⟩
          have hBw : Below w.heap.size w wr := H1.out.1.trans (hB.out.mono H1.out.1.size)
          obtain ⟨a0, a1, a2, a3, a4, a5⟩ := (hrow.move fun c _ hl => ⟨trivial, hBw.block c hl⟩).fl hx
          obtain ⟨p1, n1, c1, p2, n2, c2, e1, e2⟩ := hsh _ (List.mem_of_getElem? hx)
          simp only at a0 a1 a2 a3 a4 a5 e1 e2
          subst e1 e2
          have zq : (q : Int) < (xs.length : Int) := by omega
          have hb0r : b0 < wr.heap.size := Nat.lt_of_lt_of_le hb0 hBw.size
          have hbq := beq_cmpT xn NM
          obtain ⟨OX, hOX⟩ : ∃ O, O = Obj.cells #[.string xn, .int .i64 xv.kind, .int .i64 xv.num, .string xv.text, .slice p1 n1 c1, .slice p2 n2 c2] 49 := ⟨_, rfl⟩
          have hBX : Below wr.heap.size wr (wr.alloc OX) := (Below.refl _ _).alloc (Nat.le_refl _) _
          have hne : w.heap.size ≠ wr.heap.size := by omega
          have HX := (show Hid _ from And.intro hBX (And.intro hOX (And.intro hBw hx)))
          clear ih hrow hsh hBZ rZ hZ0 hrq hBX hOX hBw hx r1
          by_cases hc : cmpT xn NM = 0
          · rw [decide_eq_true hc] at hbq
            have hR5 : RES = .error 5 := by
              rw [← HR.out, if_pos (get_some_of (e := ⟨xn, xv, .slice p1 n1 c1, .slice p2 n2 c2⟩) (List.mem_of_getElem? HX.out.2.2.2) hc)]
            subst hR5
            clear hc
            go_wp2_with fail
            refine bodyPost_ret (v := .tuple #[.agg #[.string ⟨#[]⟩, .int .i64 0, .int .i64 0, .string ⟨#[]⟩, .slice none 0 0, .slice none 0 0], .int .i64 (k : Int), .int .i64 5]) (by simp [results, Tryz.results69, go_sem, G0, G1, G2, G3, G4, G5, hlr]) rfl (fd_bad k 5 (by decide) ?_)
            have hk := HX.out.2.2.1
            have hz := hk.size
            repeat (with_reducible first | exact hk | refine qSetc ?_ (Nat.le_refl _) | refine qAl ?_ (by simp [World.setCell]; omega))
          · rw [decide_eq_false hc] at hbq
            have HC := (show Hid _ from hc)
            clear hc
            go_wp2_with fail
            go_roundg (xs.length - (q + 1))
            case measure => omega
            case rel =>
              refine ⟨q + 1, by omega, by omega, by go_num, ?_, ?_⟩
              · intro e he
                rw [List.take_add_one, HX.out.2.2.2] at he
                rcases List.mem_append.1 he with he | he
                · exact hA.out e he
                · have : e = ⟨xn, xv, .slice p1 n1 c1, .slice p2 n2 c2⟩ := by simpa using he
                  rw [this]; exact HC.out
              · have hb := HX.out.1
                rw [HX.out.2.1] at hb
                exact hB.out.trans (hb.mono hB.out.size)
        · have zq : ¬ (q : Int) < (xs.length : Int) := by omega
          have hgn : getF NM (xs.map Fl.pair) = none := get_none_of fun e he => hA.out e (by rw [List.take_of_length_le (by omega)]; exact he)
          have hR2 := HR.out
          rw [hgn, if_neg (by simp)] at hR2
          have hBw : Below w.heap.size w wr := H1.out.1.trans (hB.out.mono H1.out.1.size)
          have hbl := blank_any s hs (k + r2) (by omega) wr
          rw [show ((k + r2 : Nat) : Int) = (k : Int) + (r2 : Int) from rfl] at hbl
          have hw1 : wrap64 ((k : Int) + (r2 : Int)) = (k : Int) + (r2 : Int) := by unfold wrap64; omega
          have HG := (show Hid _ from And.intro hgn (And.intro hR2 (And.intro hBw r1)))
          clear hgn hR2 hBw r1
          go_wp2_with fail
          refine hbl.mono ?_
          rintro e w3 ⟨⟨k2, rfl, hk02, hk2, hd2⟩, hw3⟩
          rw [hw3]
          clear hw3 hbl
          have his := is_any s hs k2 hk2 ⟨#[58]⟩ (by decide) wr
          rw [show (⟨#[58]⟩ : ByteArray).data.toList = [58] from rfl, pref_one _ 58 (by decide), show (58 : UInt8).toNat = 58 from rfl, hd2] at his
          obtain ⟨b1, hb1⟩ : ∃ b, decide (hd (skip (s.data.toList.drop (k + r2))) = 58) = b := ⟨_, rfl⟩
          rw [hb1] at his
          have HB := (show Hid _ from And.intro hb1 hd2)
          clear hb1 hd2
          go_wp2_with fail
          refine his.mono ?_
          rintro e w4 ⟨rfl, hw4⟩
          rw [hw4]
          clear hw4 his
          cases b1
          · have hR1 : RES = .error 1 := by
              have h := HG.out.2.1
              rw [List.drop_drop, if_neg (of_decide_eq_false HB.out.1)] at h
              exact h.symm
            subst hR1
            go_wp2_with fail
            refine bodyPost_ret (v := .tuple #[.agg #[.string ⟨#[]⟩, .int .i64 0, .int .i64 0, .string ⟨#[]⟩, .slice none 0 0, .slice none 0 0], .int .i64 (k2 : Int), .int .i64 1]) (by simp [results, Tryz.results69, go_sem, G0, G1, G2, G3, G4, G5]) rfl (fd_bad k2 1 (by decide) ?_)
            have hk := HG.out.2.2.1
            repeat (with_reducible first | exact hk | refine qSetc ?_ (Nat.le_refl _))
          · have hk2l : k2 < s.size := by
              have h := hd_drop_lt (of_decide_eq_true HB.out.1) (by decide)
              rw [← HB.out.2, List.length_drop, ← size_list rfl] at h
              omega
            have hbl := blank_any s hs (k2 + 1) (by omega) wr
            rw [show ((k2 + 1 : Nat) : Int) = (k2 : Int) + 1 from rfl] at hbl
            go_wp2_with fail
            refine hbl.mono ?_
            rintro e w5 ⟨⟨k3, rfl, hk23, hk3, hd3⟩, hw5⟩
            rw [hw5]
            clear hw5 hbl
            have hread := HH.out.1 s hs k3 hk3 wr (by rw [hd3, skip_skip])
            have HD := (show Hid _ from hd3)
            clear hd3
            go_wp2_with fail
            refine hread.mono ?_
            rintro e w6 ⟨x, al, nl, cl, af, nf, cf, j, c, rfl, hb6, hr6⟩
            have r6 := (hb6.block _ (lt_of_heap HG.out.2.2.2)).trans HG.out.2.2.2
            obtain ⟨v0, v1, v2, v3, v4, v5, vf⟩ := row6 r6
            have hl6 := lt_of_heap r6
            have hz6 := hb6.size
            have hne6 : w.heap.size ≠ w6.heap.size := by omega
            have H6 := (show Hid _ from And.intro hb6 hr6)
            clear hread hb6 hr6 r6
            go_wp2_with fail
            refine bodyPost_ret (v := .tuple #[.agg #[.string NM, .int .i64 x.kind, .int .i64 x.num, .string x.text, .slice al nl cl, .slice af nf cf], .int .i64 (j : Int), .int .i64 c]) (by simp [results, Tryz.results69, go_sem, v0, v1, v2, v3, v4, v5, hl6]) rfl ⟨NM, x, al, nl, cl, af, nf, cf, j, c, rfl, ?_, ?_⟩
            · have hk : Below w.heap.size w w6 := HG.out.2.2.1.trans (H6.out.1.mono HG.out.2.2.1.size)
              have hz := hk.size
              repeat (with_reducible first | exact hk | refine qSetc ?_ (Nat.le_refl _) | refine qAl ?_ (by simp [World.setCell]; omega))
            · have hv : valueW n ((skip (s.data.toList.drop (k + r2))).drop 1) = valueW n (s.data.toList.drop k3) := by
                rw [HD.out, valueW_skip, ← HB.out.2, List.drop_drop]
              have hR := HG.out.2.1
              rw [List.drop_drop, if_pos (of_decide_eq_true HB.out.1), hv] at hR
              have hr := H6.out.2
              obtain ⟨res, hres⟩ : ∃ r, valueW n (s.data.toList.drop k3) = r := ⟨_, rfl⟩
              rw [hres] at hR hr
              cases res with
              | error d =>
                subst hR
                exact hr
              | ok p =>
                subst hR
                obtain ⟨h1, h2, h3, h4, h5⟩ := hr
                refine ⟨h1, by rw [h2], HG.out.1, h3, h4, ?_⟩
                have hq : Rep (fun b => wr.heap.size ≤ b) n w6 x (.slice al nl cl) (.slice af nf cf) := h5
                have hno : ¬ (wr.heap.size ≤ w.heap.size) := by omega
                refine Rep.move (ok := fun b => wr.heap.size ≤ b) (fun b hb _ => ⟨by show w.heap.size ≤ b; have hb : wr.heap.size ≤ b := hb; omega, rfl⟩) ?_
                repeat (with_reducible first | exact hq | refine rep_setc ?_ hno | refine rep_al ?_)
  · have zk : ¬ (k : Int) < (s.size : Int) := by omega
    have hn : rq = none := by
      rw [← HH.out.2.2.2.2.2.2, drop_end s k (by omega)]; rfl
    subst hn
    have hR1 : RES = .error 1 := hRES.symm
    subst hR1
    obtain ⟨g0, g1, g2, g3, g4, g5, gf⟩ := row6 rZ
    have hl1 := lt_of_heap rZ
    rw [hZ0] at g0 g1 g2 g3 g4 g5 hl1
    have HB := (show Hid _ from hBZ)
    rw [hZ0] at HB
    clear hRES hBZ rZ hrq
    go_enter Tryz.func69, Tryz.ntmps69
    go_wp2_with fail
    refine bodyPost_ret (v := .tuple #[.agg #[.string ⟨#[]⟩, .int .i64 0, .int .i64 0, .string ⟨#[]⟩, .slice none 0 0, .slice none 0 0], .int .i64 (k : Int), .int .i64 1]) (by simp [results, Tryz.results69, go_sem]) rfl (fd_bad k 1 (by decide) ?_)
    have hk := HB.out
    repeat (with_reducible first | exact hk | refine qSetc ?_ (Nat.le_refl _))
end Go.Proofs.YtdcaohnaiepllaaGreatDoor
