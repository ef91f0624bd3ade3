/-
  package path's stepOrMake by its contract. Conditions: as stated (parts of at most 2^40 bytes; room for one more field).
  package path's Put by its contract. Conditions: as stated (parts of at most 2^40 bytes; names rise, and there is room for one more field).
  The parts of a text between which dots stand, as plain data. No conditions.
  package path's Parse by its contract. Conditions: as stated (texts of at most 2^31 bytes).
-/
import Derived.Test.YtgcccihnlecpnaaGreatDoorU13
import Derived.Test.YtgcccihnlecpnaaGreatDoorU8
import Derived.Lib.SplitLaws
import Derived.Lib.ValidLaws
namespace Go.Proofs.YtgcccihnlecpnaaGreatDoor
open Go.RowKit

theorem getF_none_all {name : ByteArray} : ∀ {fs : List (ByteArray × V)}, getF name fs = none → ∀ p ∈ fs, isName name p = false
  | [], _, _, h => by cases h
  | f :: fs, h, p, hp => by
    rw [getF_cons] at h
    by_cases h0 : cmpT f.1 name = 0
    · rw [if_pos h0] at h; cases h
    · rw [if_neg h0] at h
      rcases List.mem_cons.1 hp with rfl | hp
      · exact decide_eq_false h0
      · exact getF_none_all h p hp
theorem where_ins {name : ByteArray} {x : V} {fs : List (ByteArray × V)} {j : Nat} (hn : getF name fs = none) (ha : aboveI name fs = (j : Nat)) : (insF name x fs)[j]? = some (name, x) ∧ whereI (isName name) (insF name x fs) = (j : Nat) := by
  obtain ⟨j1, a1, a2, a3⟩ := where_above name x fs
  obtain rfl : j1 = j := by rw [a1] at ha; omega
  have hl : (fs.take j1).length = j1 := by rw [List.length_take]; omega
  have hg : (insF name x fs)[j1]? = some (name, x) := by
    rw [a3, List.getElem?_append_right (by omega), hl, Nat.sub_self]; rfl
  refine ⟨hg, whereI_hit _ j1 _ _ hg ?_ fun i y hi hy => ?_⟩
  · exact decide_eq_true (good_cmpT.refl _)
  · rw [a3, List.getElem?_append_left (by omega)] at hy
    exact getF_none_all hn y (List.mem_of_mem_take (List.mem_of_getElem? hy))

/-- the field that is new, and all else as a hole around it. -/
theorem set_kid {n : Nat} {w W : World} {v : V} {name : ByteArray} {x : V} {l f : Value} (hx1 : x.list = []) (hx2 : x.fields = []) (h : SetV n w W v name x l f) :
    ∃ (j C c : Nat) (xl xf : Value) (okk : Nat → Prop) (M : Nat), aboveI name v.fields = (j : Nat) ∧ f = .slice (some ⟨C, 0, none⟩) (v.fields.length + 1) c ∧
      Kid okk W l f C (j * 6 + 1) x xl xf (fun y => { v with fields := (insF name x v.fields).set j (name, y) }) ∧ (∀ b, okk b → w.heap.size ≤ b ∧ b < W.heap.size) ∧ Rep okk M W { v with fields := insF name x v.fields } l f := by
  obtain ⟨ok1, ok2, G, j, es, fs, lx, fx, h1, h2, h3, h4, h5, h6, h7, h8, h9, h10, h11, h12⟩ := h
  have hfl : fs.length = v.fields.length := by rw [← h2, List.length_map]
  obtain ⟨j1, a1, a2, a3⟩ := where_above name x v.fields
  obtain rfl : j1 = j := by rw [a1] at h3; omega
  have hln : (fs.take j1 ++ ⟨name, x, lx, fx⟩ :: fs.drop j1).length = fs.length + 1 := by simp; omega
  have hmap : (fs.take j1 ++ (⟨name, x, lx, fx⟩ : Fl) :: fs.drop j1).map Fl.pair = insF name x v.fields := by
    rw [a3, ← h2, List.map_append, List.map_cons, List.map_take, List.map_drop]; rfl
  have hlt : (fs.take j1).length = j1 := by rw [List.length_take]; omega
  have hget : (fs.take j1 ++ (⟨name, x, lx, fx⟩ : Fl) :: fs.drop j1)[j1]? = some ⟨name, x, lx, fx⟩ := by
    rw [List.getElem?_append_right (by omega), hlt, Nat.sub_self]; rfl
  rw [← hln] at h7
  obtain ⟨C, c, rfl, hCl, hC, -⟩ := h7.cells (by rw [hln]; omega)
  subst hC
  obtain ⟨-, cur, b2, b3⟩ := h7.block
  obtain ⟨c0, c1, c2, c3, c4, c5⟩ := h7.fl hget
  have hoth : ∀ (i : Nat) (e' : Fl), i ≠ j1 → (fs.take j1 ++ (⟨name, x, lx, fx⟩ : Fl) :: fs.drop j1)[i]? = some e' → e' ∈ fs := by
    intro i e' hi he
    rcases Nat.lt_or_ge i j1 with hl | hl
    · rw [List.getElem?_append_left (by omega)] at he
      exact List.mem_of_mem_take (List.mem_of_getElem? he)
    · rw [List.getElem?_append_right (by omega), hlt] at he
      obtain ⟨d, hd⟩ : ∃ d, i - j1 = d + 1 := ⟨i - j1 - 1, by omega⟩
      rw [hd, List.getElem?_cons_succ] at he
      exact List.mem_of_mem_drop (List.mem_of_getElem? he)
  have h9' : Rep (fun b => ok2 b ∧ b < W.heap.size) (n + 1) W x lx fx := h9.move fun b hb hl => ⟨⟨hb, hl⟩, rfl⟩
  refine ⟨j1, C, c, lx, fx, fun b => (ok1 b ∧ b < W.heap.size) ∨ (ok2 b ∧ b < W.heap.size) ∨ b = C, n + 2, h3, by rw [hln, hfl], ⟨n + 1, fun b => ok2 b ∧ b < W.heap.size, fun b => ok1 b ∧ b < W.heap.size, ⟨c1, c2, c3, c4, c5, h9.lies⟩, own_bare h9' hx1 hx2, ?_, ⟨cur, _, b2, by rw [hln] at b3; omega⟩, fun b hb => ⟨.inr (.inl hb), fun hh => (h10 b hh.1).2.2 hb.1, (h11 b hb.1).2⟩, fun b hb => ⟨.inl hb, (h10 b hb.1).2.1⟩, .inr (.inr rfl)⟩, fun b hb => ?_, ?_⟩
  · have := hole_field (keep := fun b => ok1 b ∧ b < W.heap.size) (n := n) (v := { v with fields := insF name x v.fields }) h1 hmap h7 hget (h5.move fun b hb hl => ⟨⟨hb, hl⟩, rfl⟩) (fun e' he' => (h6 e' he').move fun b hb hl => ⟨⟨hb, hl⟩, rfl⟩) fun i e' hi he' => (h8 e' (hoth i e' hi he')).move fun b hb hl => ⟨⟨hb, hl⟩, rfl⟩
    exact this
  · rcases hb with hb | hb | rfl
    · exact ⟨(h10 b hb.1).1, hb.2⟩
    · exact ⟨(h11 b hb.1).1, hb.2⟩
    · exact ⟨h12, hCl⟩
  · refine ⟨⟨es, h1, h5.move fun b hb hl => ⟨.inl ⟨hb, hl⟩, rfl⟩, fun e' he' => ((h6 e' he').move fun b hb hl => ⟨.inl ⟨hb, hl⟩, rfl⟩ : Rep _ n W _ _ _).up⟩, ⟨_, hmap, h7.move fun b hb _ => ⟨.inr (.inr hb), rfl⟩, fun u hu => ?_⟩⟩
    obtain ⟨i, hi⟩ := List.mem_iff_getElem?.1 hu
    by_cases hij : i = j1
    · subst hij
      rw [hget] at hi
      cases hi
      exact h9.move fun b hb hl => ⟨.inr (.inl ⟨hb, hl⟩), rfl⟩
    · exact ((h8 u (hoth i u hij hi)).move fun b hb hl => ⟨.inl ⟨hb, hl⟩, rfl⟩ : Rep _ n W _ _ _).up

/-- what stepOrMake tells. -/
def Made6 (z R N k : Nat) (u : V) (F : V → V) (part : ByteArray) (e : Ending) (w' : World) : Prop :=
  (e = .returned (.pointer none) ∧ ∀ ps x, putP u (part :: ps) x = none) ∨
  ∃ (C o' : Nat) (y : V) (yl yf : Value) (G : V → V), e = .returned (.pointer (some ⟨C, o', none⟩)) ∧ Spot z R w' C o' y yl yf (fun x => F (G x)) ∧ Fit N k y ∧ ∀ ps x, putP u (part :: ps) x = (putP y ps x).map G

set_option maxRecDepth 100000 in
set_option maxHeartbeats 2000000 in
theorem make6_any {n : Nat} {ok keep : Nat → Prop} (w0 : World) (R k N B o : Nat) (u : V) (ul uf : Value) (F : V → V) (part : ByteArray) (w : World) (hE0 : PEnv w0) (hB0 : Below w0.heap.size w0 w) (hp : part.size ≤ 1099511627776) (h : SpotW n ok keep w0.heap.size R w B o u ul uf F) (hfit : Fit N (k + 1) u) (hN : N < 1000000) :
    Calls Tryz.prog 22 #[.pointer (some ⟨B, o, none⟩), .string part] w fun e w' => Below w0.heap.size w0 w' ∧ Made6 w0.heap.size R N k u F part e w' := by
  have hcall := step6_any n u ul uf B o part w (hE0.below hB0) hp h.at_
  go_enter Tryz.func22, Tryz.ntmps22
  go_wp2_with fail
  refine hcall.mono ?_
  rintro e w1 ⟨hst, hb1⟩
  have h1 := h.below hb1
  have hbz : Below w0.heap.size w0 w1 := hB0.trans (hb1.mono hB0.size)
  clear hcall
  obtain ⟨c0, c1, c2, c3, c4, hL⟩ := h1.at_
  rcases hst with ⟨hn, rfl⟩ | ⟨h5, j, q, y, C, c, hj, hw, ha, hf, rfl⟩ | ⟨h4, j, y, C, c, hpl, hj, ha, hl, rfl⟩
  · by_cases h5 : u.kind = 5
    · have hgn : getF part u.fields = none := by rw [← at5 h5, hn]
      have hlen : u.fields.length < 1000000 := by have := hfit.2.1; omega
      have hwn : whereI (isName part) u.fields = -1 := by
        rcases where_name part u.fields with ⟨e1, _⟩ | ⟨_, _, _, _, _, e3, _⟩
        · exact e1
        · rw [hgn] at e3; cases e3
      have hset := Set_new_own n u objE ul uf (.slice none 0 0) (.slice none 0 0) part w1 hL (Rep.le (n := 0) ⟨rfl, rfl, rfl, rfl⟩ (Nat.zero_le _)) h5 hwn hlen
      simp only [objE] at hset
      have hsl := Rep.slices hL
      obtain ⟨al, cl, af, cf, rfl, rfl⟩ := hsl
      obtain ⟨cur, t, g1, g2⟩ := h1.row
      have HH := (show Hid _ from And.intro h1 (And.intro hbz (And.intro hgn (And.intro hn (And.intro g1 g2)))))
      rw [h5] at hset c0
      clear h h1 hb1 hbz hgn hn hL g1 g2 hwn
      go_wp2_with fail
      refine hset.mono ?_
      rintro e w2 ⟨l', f', rfl, hsv, hb2⟩
      obtain ⟨h1, hbz, hgn, hn, g1, g2⟩ := HH.out
      have h2 := h1.below hb2
      have hBl : B < w1.heap.size := lt_of_heap g1
      have g1' : w2.heap[B]? = some (.cells cur t (0, 0)) := (hb2.block B hBl).trans g1
      obtain ⟨j, C, c, xl, xf, okk, M, ha, rfl, hkid, hko, hrep⟩ := set_kid (x := objE) rfl rfl hsv
      obtain ⟨al', cl', af', cf', rfl, -⟩ := hrep.slices
      obtain ⟨hsame, d0, d1, d2, d3, d4⟩ := write5_same g1' g2 (.int .i64 5) (.int .i64 u.num) (.string u.text) (.slice al' u.list.length cl') (.slice (some ⟨C, 0, none⟩) (u.fields.length + 1) c)
      have hne := fun (b : Nat) (hb : b ≠ B) => write5_ne w2 B o (.int .i64 5) (.int .i64 u.num) (.string u.text) (.slice al' u.list.length cl') (.slice (some ⟨C, 0, none⟩) (u.fields.length + 1) c) hb
      have hsz := write5_size w2 B o (.int .i64 5) (.int .i64 u.num) (.string u.text) (.slice al' u.list.length cl') (.slice (some ⟨C, 0, none⟩) (u.fields.length + 1) c)
      have hz3 : Below w0.heap.size w0 _ := write5_below (hbz.trans (hb2.mono hbz.size)) h1.le o (.int .i64 5) (.int .i64 u.num) (.string u.text) (.slice al' u.list.length cl') (.slice (some ⟨C, 0, none⟩) (u.fields.length + 1) c)
      obtain ⟨k0, k1, k2, k3, k4, _⟩ := h2.at_
      have hfz := frozen_row g1'
      have hkid3 := hkid.move fun b hb => hne b (by have := hko b hb; omega)
      have hrep3 := hrep.move (ok' := okk) fun b hb _ => ⟨hb, hne b (by have := hko b hb; omega)⟩
      have hcall2 := step6_any M { kind := 5, num := u.num, text := u.text, list := u.list, fields := insF part objE u.fields } _ _ B o part _ (hE0.below hz3) hp ⟨d0, d1, d2, d3, d4, by have := hrep3.lies; rwa [h5] at this⟩
      generalize hW3 : write5 w2 B o (.int .i64 5) (.int .i64 u.num) (.string u.text) (.slice al' u.list.length cl') (.slice (some ⟨C, 0, none⟩) (u.fields.length + 1) c) = W3 at *
      have HW := (show Hid _ from And.intro hsame (And.intro d0 (And.intro d1 (And.intro d2 (And.intro d3 (And.intro d4 (And.intro hne (And.intro hsz (And.intro hz3 (And.intro hkid3 (And.intro h2 (And.intro hko hrep3))))))))))))
      simp only [write5, set5W] at hW3
      clear hsame d0 d1 d2 d3 d4 hne hsz hz3 hkid3 hkid hrep hrep3 h2 h1 hset hbz hsv hb2 hgn hn hko
      go_wp2_with fail
      refine hcall2.mono ?_
      rintro e w4 ⟨hst2, hb4⟩
      obtain ⟨hsame, d0, d1, d2, d3, d4, hne, hsz, hz3, hkid3, h2, hko, hrep3⟩ := HW.out
      obtain ⟨h1, hbz, hgn, hn, g1, g2⟩ := HH.out
      obtain ⟨hgi, hwi⟩ := where_ins (x := objE) hgn ha
      have hat : atP { kind := 5, num := u.num, text := u.text, list := u.list, fields := insF part objE u.fields } part = some objE := by
        rw [at5 rfl]
        rcases where_name part (insF part objE u.fields) with ⟨e1, _⟩ | ⟨j', q', y', e1, e2, e3, _⟩
        · rw [hwi] at e1; omega
        · obtain rfl : j' = j := by rw [hwi] at e1; omega
          rw [hgi] at e2
          cases e2
          exact e3
      rcases hst2 with ⟨hn2, rfl⟩ | ⟨-, j', q', y', C', c', hj', hw', ha', hf', rfl⟩ | ⟨h4, _⟩
      · rw [hat] at hn2; cases hn2
      · obtain rfl : j' = j := by rw [hwi] at hw'; omega
        simp only [Value.slice.injEq, Option.some.injEq, Addr.mk.injEq] at hf'
        obtain ⟨⟨rfl, -⟩, -, -⟩ := hf'
        have hspot : Spot w0.heap.size R W3 C (j' * 6 + 1) objE xl xf _ := h2.sub (u' := u) hkid3 (fun b hb => hne b fun e => h2.apart (e ▸ hb)) (fun b hb => by
          have q1 := hko b hb
          refine ⟨fun hk => ?_, by omega, by have := hbz.size; omega, by rw [hsz]; exact q1.2⟩
          have := (h1.keeps b hk).2; omega) hsame (by rw [h5]; exact d0) d1 d2 d3 d4 (fun _ => ⟨rfl, rfl, rfl⟩) (by rw [hsz]; exact Nat.le_refl _)
        clear hcall2 hsame d0 d1 d2 d3 d4 hne hkid3 h2 hko hrep3 h1 hgi hwi hat
        go_wp2
        go_ret
        exact ⟨hz3.trans (hb4.mono hz3.size), .inr ⟨C, j' * 6 + 1, objE, xl, xf, _, rfl, hspot.below hb4, fit_obj N k, fun ps x => put_made h5 hgn ha ps x⟩⟩
      · cases h4
    · have e5 : (u.kind != 5) = true := by simpa using h5
      clear h h1 hL
      go_wp2
      go_ret
      exact ⟨hbz, .inl ⟨rfl, fun ps x => put_no h5 hn ps x⟩⟩
  · obtain ⟨C', c', yl, yf, hf', hkid⟩ := own_field h1.own hj
    rw [hf] at hf'
    simp only [Value.slice.injEq, Option.some.injEq, Addr.mk.injEq, and_true, true_and] at hf'
    obtain ⟨rfl, rfl⟩ := hf'
    have hspot := h1.kid hkid fun _ => ⟨rfl, rfl, rfl⟩
    have hfy : Fit N k y := hfit.2.2.2 _ (List.mem_of_getElem? hj)
    have hput := fun ps x => put_field h5 hfit.1 hw hj ps x
    clear h h1 hL hkid
    go_wp2
    go_ret
    exact ⟨hbz, .inr ⟨C, j * 6 + 1, y, yl, yf, _, rfl, hspot, hfy, hput⟩⟩
  · obtain ⟨C', c', yl, yf, hl', hkid⟩ := own_list h1.own hj
    rw [hl] at hl'
    simp only [Value.slice.injEq, Option.some.injEq, Addr.mk.injEq, and_true, true_and] at hl'
    obtain ⟨rfl, rfl⟩ := hl'
    have hspot := h1.kid hkid fun _ => ⟨rfl, rfl, rfl⟩
    have hfy : Fit N k y := hfit.2.2.1 _ (List.mem_of_getElem? hj)
    have hput := fun ps x => put_list h4 hpl hj ps x
    clear h h1 hL hkid
    go_wp2
    go_ret
    exact ⟨hbz, .inr ⟨C, j * 5, y, yl, yf, _, rfl, hspot, hfy, hput⟩⟩
end Go.Proofs.YtgcccihnlecpnaaGreatDoor

namespace Go.Proofs.YtgcccihnlecpnaaGreatDoor
open Go.RowKit

theorem Flt.set5 {c : Int} {w : World} {v : Value} {B T : Nat} {cs : Array Value} (h : Flt c w v) (hB : w.heap[B]? = some (.cells cs T (0, 0))) (hT : T ≠ 91) (i0 i1 i2 i3 i4 : Nat) (a0 a1 a2 a3 a4 : Value) : Flt c (set5W w B i0 i1 i2 i3 i4 a0 a1 a2 a3 a4) v := by
  obtain ⟨ps, h⟩ := h
  refine ⟨ps, h.kept fun b cs' hb => set5W_ne _ _ _ _ _ _ _ _ _ _ _ _ fun e => ?_⟩
  rw [e, hB] at hb
  cases hb
  exact hT rfl

/-- what Put tells. -/
def PutAns (w' : World) : Option V → Ending → Prop
  | none, e => ∃ u z, e = .returned (.tuple #[.agg #[.int .i64 0, .int .i64 0, .string ⟨#[]⟩, .slice none 0 0, .slice none 0 0], .iface u z]) ∧ Flt 6 w' (.iface u z)
  | some y, e => ∃ l' f' m, e = .returned (.tuple #[.agg #[.int .i64 y.kind, .int .i64 y.num, .string y.text, l', f'], .nilIface]) ∧ Lies m w' y l' f'

set_option maxRecDepth 100000 in
set_option maxHeartbeats 4000000 in
theorem Put6_any (n m N : Nat) (ps : List ByteArray) (s : Value) (v x : V) (l f xl xf : Value) (w : World) (hE : PEnv w) (hp : ∀ p ∈ ps, p.size ≤ 1099511627776) (hpl : ps.length ≤ 1000000) (hs : StrsAt w s ps) (h : Lies n w v l f) (hx : Lies m w x xl xf) (hfit : Fit N ps.length v) (hN : N < 1000000) :
    Calls Tryz.prog 13 #[.agg #[.int .i64 v.kind, .int .i64 v.num, .string v.text, l, f], s, .agg #[.int .i64 x.kind, .int .i64 x.num, .string x.text, xl, xf]] w fun e w' => Below w.heap.size w w' ∧ PutAns w' (putP v ps x) e := by
  obtain ⟨O1, hO1⟩ : ∃ O, O = Obj.cells #[.int .i64 v.kind, .int .i64 v.num, .string v.text, l, f] 28 := ⟨_, rfl⟩
  obtain ⟨O2, hO2⟩ : ∃ O, O = Obj.cells #[.int .i64 x.kind, .int .i64 x.num, .string x.text, xl, xf] 28 := ⟨_, rfl⟩
  obtain ⟨O3, hO3⟩ : ∃ O, O = Obj.cells #[.int .i64 0, .int .i64 0, .string ⟨#[]⟩, .slice none 0 0, .slice none 0 0] 28 := ⟨_, rfl⟩
  obtain ⟨W3, hW3⟩ : ∃ W, W = ((w.alloc O1).alloc O2).alloc O3 := ⟨_, rfl⟩
  have hB3 : Below w.heap.size w W3 := by rw [hW3]; exact (((Below.refl _ _).alloc (Nat.le_refl _) _).alloc (by simp) _).alloc (by simp; omega) _
  have r1 : W3.heap[w.heap.size + 1]? = some O2 := by rw [hW3]; exact heap_alloc3_1
  have r2 : W3.heap[w.heap.size + 1 + 1]? = some O3 := by rw [hW3]; exact heap_alloc3_2
  have hsz3 : W3.heap.size = w.heap.size + 3 := by rw [hW3]; simp
  have htw := twinValueO_any n v l f W3 (h.below hB3)
  have hE3 := hE.below hB3
  have hx3 := hx.below hB3
  have hs3 := hs.below hB3
  rw [hO2] at r1
  rw [hO3] at r2
  obtain ⟨a1, c1, a3, c3, rfl, rfl⟩ := h.slices
  obtain ⟨a5, c5, a7, c7, rfl, rfl⟩ := hx.slices
  obtain ⟨a, cap, rfl, hc1, hc2, hcells⟩ := hs3
  have HH := (show Hid _ from And.intro hB3 (And.intro r1 (And.intro r2 (And.intro hsz3 (And.intro hE3 hx3)))))
  rw [hO1, hO2, hO3] at hW3
  clear hB3 r1 r2 hsz3 hE3 hx3 hE h hx hs hO1 hO2 hO3
  go_enter Tryz.func13, Tryz.ntmps13
  go_wp2_with fail
  try rw [← hW3]
  refine htw.mono ?_
  rintro e w1 ⟨l', f', rfl, hown, hb1⟩
  obtain ⟨al', cl', af', cf', rfl, rfl⟩ := hown.slices
  obtain ⟨hB3, r1, r2, hsz3, hE3, hx3⟩ := HH.out
  have hsp : Spot W3.heap.size w1.heap.size (w1.alloc (.cells #[.int .i64 v.kind, .int .i64 v.num, .string v.text, .slice al' v.list.length cl', .slice af' v.fields.length cf'] 28)) w1.heap.size 0 v (.slice al' v.list.length cl') (.slice af' v.fields.length cf') (fun x => x) := by
    refine spot_new (t := 28) (heap_alloc_new w1 _) (hown.move (ok' := Btw W3.heap.size w1.heap.size) (fun b hb => hb) fun b hb hl => Below.heap_alloc w1 _ b hl) (fun b hb => ⟨by have := hb.2; omega, hb.1, by have := hb.2; simp; omega⟩) hb1.size
  have hBa : Below W3.heap.size W3 (w1.alloc (.cells #[.int .i64 v.kind, .int .i64 v.num, .string v.text, .slice al' v.list.length cl', .slice af' v.fields.length cf'] 28)) := hb1.alloc hb1.size _
  have S := (show Aside _ from And.intro hBa hsp)
  clear hown hb1 hsp hBa htw hB3 r1 r2 hsz3 hE3 hx3
  go_wp2
  go_loopg [9, 10, 11, 16] ps.length (fun gg sp _ _ i wr => ∃ (k B O : Nat) (u : V) (ul uf : Value) (F : V → V), k ≤ ps.length ∧ ps.length - k ≤ gg ∧ i = .int .i64 k ∧ sp = .pointer (some ⟨B, O, none⟩) ∧ Aside (Below W3.heap.size W3 wr ∧ Spot W3.heap.size w1.heap.size wr B O u ul uf F ∧ Fit N (ps.length - k) u ∧ putP v ps x = (putP u (ps.drop k) x).map F))
  case atStart => 
    obtain ⟨hBa, hsp⟩ := S.out
    exact ⟨0, w1.heap.size, 0, v, _, _, fun x => x, Nat.zero_le _, by omega, rfl, rfl, hBa, hsp, hfit, by rw [List.drop_zero]; cases putP v ps x <;> rfl⟩
  case round =>
    obtain ⟨k, B, O, u, ul, uf, F, hk, hgg, rfl, rfl, Rr⟩ := hrel
    by_cases hlt : k < ps.length
    · obtain ⟨hB, ⟨n', ok, keep, hsw⟩, hF, hP⟩ := Rr.out
      obtain ⟨hB3, r1, r2, hsz3, hE3, hx3⟩ := HH.out
      obtain ⟨p, hpk⟩ : ∃ p, ps[k]? = some p := ⟨_, List.getElem?_eq_getElem hlt⟩
      have hdrop : ps.drop k = p :: ps.drop (k + 1) := by
        rw [List.drop_eq_getElem_cons hlt, ← (List.getElem?_eq_some_iff.1 hpk).2]
      obtain ⟨ab, ao, rfl, hcell⟩ := hcells (fun e => by rw [e] at hlt; simp at hlt)
      have c0 := hcell k p hpk
      have c0' : wr.cell? ⟨ab, ao + k, none⟩ = some (.string p) := (hB.cell (lt_of_cell c0)).trans c0
      have zk : (k : Int) < (ps.length : Int) := by omega
      rw [show ps.length - k = (ps.length - (k + 1)) + 1 by omega] at hF
      have hcall := make6_any W3 w1.heap.size (ps.length - (k + 1)) N B O u ul uf F p wr hE3 hB (hp p (List.mem_of_getElem? hpk)) hsw hF hN
      rw [hdrop] at hP
      clear hcell hcells c0 S hsw hB3 r1 r2 hsz3 hE3 hx3 hB hF
      go_wp2_with fail
      refine hcall.mono ?_
      rintro e w2 ⟨hb2, hm⟩
      rcases hm with ⟨rfl, hno⟩ | ⟨C, o', y, yl, yf, G, rfl, hsp, hfy, hput⟩
      · rw [hno] at hP
        have hPn : putP v ps x = none := hP
        obtain ⟨hB3, r1, r2, hsz3, hE3, hx3⟩ := HH.out
        have hw := wrong_any k (by omega) w2 (hE3.below hb2)
        clear hcall hP hno hB3 r1 r2 hsz3 hE3 hx3
        go_wp2_with fail
        refine hw.mono ?_
        rintro e w4 ⟨ue, ze, rfl, hflt, hb4⟩
        obtain ⟨hB3, r1, r2, hsz3, hE3, hx3⟩ := HH.out
        have hb24 := hb2.trans (hb4.mono hb2.size)
        have q2 := (hb24.block _ (lt_of_heap r2)).trans r2
        obtain ⟨o0, o1, o2, o3, o4, of⟩ := row5 q2
        have hB4 := hB3.trans (hb24.mono hB3.size)
        have T := (show Hid _ from And.intro hflt (And.intro hB4 q2))
        clear hw hflt hb4 hb24 q2 hB4 hB3 r1 r2 hsz3 hE3 hx3 hb2
        go_wp2
        refine bodyPost_ret (v := .tuple #[.agg #[.int .i64 0, .int .i64 0, .string ⟨#[]⟩, .slice none 0 0, .slice none 0 0], .iface ue ze]) (by simp [results, Tryz.results13, go_sem, o0, o1, o2, o3, o4]) rfl ?_
        obtain ⟨hflt, hB4, q2⟩ := T.out
        rw [hPn]
        exact ⟨set5W_below hB4 (Nat.le_add_right _ 2) 0 1 2 3 4 _ _ _ _ _, ue, ze, rfl, hflt.set5 q2 (by decide) 0 1 2 3 4 _ _ _ _ _⟩
      · have Q := (show Aside _ from And.intro hb2 (And.intro hsp (And.intro hfy (hP.trans (by rw [hput, Option.map_map])))))
        clear hcall hP hput hsp hfy hb2
        go_wp2
        go_roundg (ps.length - (k + 1))
        case measure => omega
        case rel => exact ⟨k + 1, C, o', y, yl, yf, _, by omega, by omega, by go_num, rfl, Q⟩
    · have zk : ¬ (k : Int) < (ps.length : Int) := by omega
      obtain ⟨hB, hsp, hF, hP⟩ := Rr.out
      obtain ⟨hB3, r1, r2, hsz3, hE3, hx3⟩ := HH.out
      have hd : ps.drop k = [] := List.drop_of_length_le (by omega)
      obtain ⟨y, hy⟩ : ∃ y, F x = y := ⟨_, rfl⟩
      have hPy : putP v ps x = some y := by rw [hP, hd, ← hy]; rfl
      have htx := twinValue_any m x _ _ wr (Lies.below hB hx3)
      have p1 := (hB.block _ (lt_of_heap r1)).trans r1
      obtain ⟨x0, x1, x2, x3, x4, xfz⟩ := row5 p1
      clear hcells S hP hF hB3 r1 r2 hsz3 hE3 hx3 hB p1 hsp hd
      go_wp2_with fail
      refine htx.mono ?_
      rintro e w2 ⟨lx, fx, rfl, hcp, hb2⟩
      have hrx := hcp.rep
      obtain ⟨bl, dl, bf, df, rfl, rfl⟩ := hrx.slices
      obtain ⟨hB, hsp, hF, hP⟩ := Rr.out
      obtain ⟨hB3, r1, r2, hsz3, hE3, hx3⟩ := HH.out
      have hsp2 := hsp.below hb2
      obtain ⟨n', ok, keep, hsw⟩ := hsp
      obtain ⟨n2, ok2, keep2, hsw2⟩ := hsp2
      obtain ⟨cur, t, g1, g2⟩ := hsw2.row
      have hBl : B < wr.heap.size := lt_of_heap hsw.row.choose_spec.choose_spec.1
      obtain ⟨k0, k1, k2, k3, k4, _⟩ := hsw2.at_
      have hfz := frozen_row g1
      obtain ⟨hsame, d0, d1, d2, d3, d4⟩ := write5_same g1 g2 (.int .i64 x.kind) (.int .i64 x.num) (.string x.text) (.slice bl x.list.length dl) (.slice bf x.fields.length df)
      have hne := fun (b : Nat) (hb : b ≠ B) => write5_ne w2 B O (.int .i64 x.kind) (.int .i64 x.num) (.string x.text) (.slice bl x.list.length dl) (.slice bf x.fields.length df) hb
      have hsz := write5_size w2 B O (.int .i64 x.kind) (.int .i64 x.num) (.string x.text) (.slice bl x.list.length dl) (.slice bf x.fields.length df)
      have hz5 : Below W3.heap.size W3 _ := write5_below (hB.trans (hb2.mono hB.size)) hsw2.le O (.int .i64 x.kind) (.int .i64 x.num) (.string x.text) (.slice bl x.list.length dl) (.slice bf x.fields.length df)
      generalize hW5 : write5 w2 B O (.int .i64 x.kind) (.int .i64 x.num) (.string x.text) (.slice bl x.list.length dl) (.slice bf x.fields.length df) = W5 at *
      have hrx5 : Rep (fun b => wr.heap.size ≤ b) (m + 1) W5 x _ _ := hrx.move fun b hb _ => ⟨hb, hne b (by omega)⟩
      obtain ⟨M, ly, fy, hatR⟩ := Spot.write ⟨n2, ok2, keep2, hsw2⟩ (fun b _ hb _ => hne b hb) hsame ⟨d0, d1, d2, d3, d4, hrx5.lies⟩
      rw [hy] at hatR
      obtain ⟨al5, cl5, af5, cf5, rfl, rfl⟩ := Rep.slices hatR.2.2.2.2.2
      obtain ⟨R0, R1, R2, R3, R4, _⟩ := hatR
      have q2 := (hz5.block _ (lt_of_heap r2)).trans r2
      obtain ⟨o0, o1, o2, o3, o4, of⟩ := row5 q2
      have hB5 : ∀ b, wr.heap.size ≤ b → w.heap.size + 3 ≤ b := fun b hb => by have := hB.size; omega
      have T := (show Hid _ from And.intro hsw2 (And.intro hsame (And.intro d0 (And.intro d1 (And.intro d2 (And.intro d3 (And.intro d4 (And.intro hne (And.intro hz5 (And.intro hrx5 q2))))))))))
      simp only [write5, set5W] at hW5
      clear hsw hsw2 hcp hrx hb2 hB hB3 r1 r2 hsz3 hE3 hx3 hF hP hsame d0 d1 d2 d3 d4 hne hsz hz5 hrx5 q2 htx x0 x1 x2 x3 x4 xfz
      go_wp2
      refine bodyPost_ret (v := .tuple #[.agg #[.int .i64 y.kind, .int .i64 y.num, .string y.text, .slice al5 y.list.length cl5, .slice af5 y.fields.length cf5], .nilIface]) (by simp [results, Tryz.results13, go_sem, o0, o1, o2, o3, o4]) rfl ?_
      rw [hPy]
      obtain ⟨hsw2, hsame, d0, d1, d2, d3, d4, hne, hz5, hrx5, q2⟩ := T.out
      obtain ⟨hB3, r1, r2, hsz3, hE3, hx3⟩ := HH.out
      have hle := hsw2.le
      have hleR := hsw2.leR
      have hn6 := fun (b : Nat) (hb : b ≠ w.heap.size + 1 + 1) => set5W_ne W5 (w.heap.size + 1 + 1) 0 1 2 3 4 (.int .i64 y.kind) (.int .i64 y.num) (.string y.text) (.slice al5 y.list.length cl5) (.slice af5 y.fields.length cf5) hb
      have hb6 : Below w.heap.size w (set5W W5 (w.heap.size + 1 + 1) 0 1 2 3 4 (.int .i64 y.kind) (.int .i64 y.num) (.string y.text) (.slice al5 y.list.length cl5) (.slice af5 y.fields.length cf5)) := set5W_below (hB3.trans (hz5.mono hB3.size)) (Nat.le_add_right _ 2) 0 1 2 3 4 _ _ _ _ _
      refine ⟨hb6, .slice al5 y.list.length cl5, .slice af5 y.fields.length cf5, ?_⟩
      have hBn : B ≠ w.heap.size + 1 + 1 := by omega
      have hRn : w1.heap.size ≠ w.heap.size + 1 + 1 := by omega
      have hs6 : Same5 w2 (set5W W5 (w.heap.size + 1 + 1) 0 1 2 3 4 (.int .i64 y.kind) (.int .i64 y.num) (.string y.text) (.slice al5 y.list.length cl5) (.slice af5 y.fields.length cf5)) B O := by
        obtain ⟨cur, t, a0, a1, a2, a3, a4, e1, e2, e3⟩ := hsame
        exact ⟨cur, t, a0, a1, a2, a3, a4, e1, e2, (hn6 B hBn).trans e3⟩
      obtain ⟨M6, l6, f6, ⟨-, -, -, z3, z4, hL6⟩⟩ := Spot.write ⟨n2, ok2, keep2, hsw2⟩ (fun b hb hbB hl => (hn6 b (by omega)).trans (hne b hbB)) hs6
        ⟨(cell_congr (hn6 B hBn)).trans d0, (cell_congr (hn6 B hBn)).trans d1, (cell_congr (hn6 B hBn)).trans d2, (cell_congr (hn6 B hBn)).trans d3, (cell_congr (hn6 B hBn)).trans d4, hrx5.move (ok' := fun _ => True) fun b hb _ => ⟨trivial, hn6 b (by have := hsw2.leR; have := hB5 b hb; omega)⟩⟩
      have e3 := (cell_congr (hn6 w1.heap.size hRn)).trans R3
      have e4 := (cell_congr (hn6 w1.heap.size hRn)).trans R4
      rw [z3] at e3
      rw [z4] at e4
      cases e3
      cases e4
      rw [hy] at hL6
      exact ⟨M6, rfl, hL6⟩
end Go.Proofs.YtgcccihnlecpnaaGreatDoor

namespace Go.Proofs.YtgcccihnlecpnaaGreatDoor

/-- the parts, of which the first one has begun already. -/
def dotG : List UInt8 → List UInt8 → List (List UInt8)
  | p, [] => [p]
  | p, c :: l => if c = 46 then p :: dotG [] l else dotG (p ++ [c]) l
theorem dotG_pos : ∀ (l p : List UInt8), 1 ≤ (dotG p l).length
  | [], p => by simp [dotG]
  | c :: l, p => by
    unfold dotG
    split
    · simp
    · exact dotG_pos l _
theorem dotG_le : ∀ (l p : List UInt8), (dotG p l).length ≤ l.length + 1
  | [], p => by simp [dotG]
  | c :: l, p => by
    unfold dotG
    split
    · have := dotG_le l []; simp; omega
    · have := dotG_le l (p ++ [c]); simp; omega
theorem dot_index : ∀ (s p : List UInt8), (Lib.index s [46] = -1 ∧ dotG p s = [p ++ s]) ∨ ∃ i : Nat, Lib.index s [46] = i ∧ i < s.length ∧ dotG p s = (p ++ s.take i) :: dotG [] (s.drop (i + 1))
  | [], p => .inl ⟨by simp [Lib.index], by simp [dotG]⟩
  | c :: l, p => by
    by_cases h : c = 46
    · right
      subst h
      exact ⟨0, by rw [Lib.index]; simp [List.isPrefixOf], by simp, by simp [dotG]⟩
    · have hp : ([46] : List UInt8).isPrefixOf (c :: l) = false := by simp [List.isPrefixOf, Ne.symm h]
      have hix : Lib.index (c :: l) [46] = if Lib.index l [46] == -1 then -1 else Lib.index l [46] + 1 := by rw [Lib.index, hp]; simp
      have hd : dotG p (c :: l) = dotG (p ++ [c]) l := by rw [dotG, if_neg h]
      rcases dot_index l (p ++ [c]) with ⟨h1, h2⟩ | ⟨i, h1, h2, h3⟩
      · left
        exact ⟨by rw [hix, h1]; rfl, by rw [hd, h2]; simp⟩
      · right
        refine ⟨i + 1, ?_, by simp; omega, by rw [hd, h3]; simp⟩
        rw [hix, h1, if_neg (fun e => by have := beq_iff_eq.1 e; omega)]; omega
theorem splitK_dot : ∀ (k : Nat) (s : List UInt8), (Lib.splitK [46] 0 k s).length = min (k + 1) (dotG [] s).length ∧ (Lib.splitK [46] 0 k s).take k = (dotG [] s).take k ∧ ((dotG [] s).length ≤ k + 1 → Lib.splitK [46] 0 k s = dotG [] s)
  | 0, s => by
    have hp := dotG_pos s []
    refine ⟨by simp [Lib.splitK]; omega, by simp, fun h => ?_⟩
    rcases dot_index s [] with ⟨_, h2⟩ | ⟨i, _, _, h3⟩
    · rw [h2]; simp [Lib.splitK]
    · rw [h3] at h
      have hq := dotG_pos (s.drop (i + 1)) []
      rw [List.length_cons] at h
      omega
  | k + 1, s => by
    rcases dot_index s [] with ⟨h1, h2⟩ | ⟨i, h1, h2, h3⟩
    · have e : Lib.splitK [46] 0 (k + 1) s = [s] := by rw [Lib.splitK, if_pos (beq_iff_eq.2 h1)]
      rw [e, h2]
      simp
    · have e : Lib.splitK [46] 0 (k + 1) s = s.take i :: Lib.splitK [46] 0 k (s.drop (i + 1)) := by
        rw [Lib.splitK, if_neg (fun e => by have := beq_iff_eq.1 e; omega), h1]
        simp
      obtain ⟨g1, g2, g3⟩ := splitK_dot k (s.drop (i + 1))
      rw [e, h3]
      refine ⟨by simp only [List.length_cons]; omega, by simp only [List.take_succ_cons, g2, List.nil_append], fun h => ?_⟩
      rw [g3 (by simp only [List.length_cons] at h; omega), List.nil_append]

def mkB (l : List UInt8) : ByteArray := ⟨l.toArray⟩
/-- the parts of a text. -/
def dots (s : ByteArray) : List ByteArray := (dotG [] s.data.toList).map mkB
abbrev goodPart (p : ByteArray) : Prop := 1 ≤ p.size ∧ p.size ≤ 32
/-- a path by its parts. -/
def parsePP (s : ByteArray) : Option (List ByteArray) :=
  if Lib.validD s.data.toList = true ∧ (dots s).length ≤ 8 ∧ ∀ p ∈ dots s, goodPart p then some (dots s) else none
theorem mkB_data (b : ByteArray) : mkB b.data.toList = b := by
  obtain ⟨⟨l⟩⟩ := b; rfl
/-- what SplitN hands back of at most nine. -/
theorem split_nine (s : ByteArray) : ((Lib.splitB ⟨#[46]⟩ 0 (min 9 (s.size + 1) - 1) s).length ≤ 9) ∧ ((dots s).length ≤ 8 → Lib.splitB ⟨#[46]⟩ 0 (min 9 (s.size + 1) - 1) s = dots s) ∧ (8 < (dots s).length → 8 < (Lib.splitB ⟨#[46]⟩ 0 (min 9 (s.size + 1) - 1) s).length) := by
  have hd := Lib.splitB_data ⟨#[46]⟩ 0 (min 9 (s.size + 1) - 1) s
  have hl := congrArg List.length hd
  rw [List.length_map] at hl
  have hb : Lib.splitB ⟨#[46]⟩ 0 (min 9 (s.size + 1) - 1) s = (Lib.splitK [46] 0 (min 9 (s.size + 1) - 1) s.data.toList).map mkB := by
    have := congrArg (List.map mkB) hd
    rw [List.map_map] at this
    have e : (mkB ∘ fun b : ByteArray => b.data.toList) = id := by funext b; exact mkB_data b
    rw [e, List.map_id] at this
    exact this
  obtain ⟨g1, g2, g3⟩ := splitK_dot (min 9 (s.size + 1) - 1) s.data.toList
  have hz : s.data.toList.length = s.size := rfl
  have hle := dotG_le s.data.toList []
  have hdl : (dots s).length = (dotG [] s.data.toList).length := List.length_map ..
  have e46 : ((⟨#[46]⟩ : ByteArray).data.toList) = [46] := rfl
  rw [e46] at hl
  rw [hl, g1, hdl]
  refine ⟨by omega, fun h => ?_, fun h => by omega⟩
  rw [hb, g3 (by omega)]
  rfl
end Go.Proofs.YtgcccihnlecpnaaGreatDoor

namespace Go.Proofs.YtgcccihnlecpnaaGreatDoor
open Go.RowKit

/-- what Parse tells. -/
def ParseAns (w' : World) : Option (List ByteArray) → Ending → Prop
  | none, e => ∃ u z, e = .returned (.tuple #[.slice none 0 0, .iface u z]) ∧ Flt 6 w' (.iface u z)
  | some ps, e => ∃ v, e = .returned (.tuple #[v, .nilIface]) ∧ StrsAt w' v ps

theorem parse_bad {s : ByteArray} (h : ¬ (Lib.validD s.data.toList = true ∧ (dots s).length ≤ 8 ∧ ∀ p ∈ dots s, goodPart p)) : parsePP s = none := if_neg h
theorem parse_good {s : ByteArray} (h : Lib.validD s.data.toList = true ∧ (dots s).length ≤ 8 ∧ ∀ p ∈ dots s, goodPart p) : parsePP s = some (dots s) := if_pos h

theorem new_flt {w : World} {c : Int} {p : ByteArray} : Flt c (w.alloc (.cells #[.string p, .iface 40 (.int .i64 c)] 91)) (.iface 89 (.pointer (some ⟨w.heap.size, 0, none⟩))) := by
  refine ⟨[p], _, _, rfl, ?_, rfl⟩
  show (Array.push _ _)[_]? = _
  rw [Array.getElem?_push, if_pos rfl]
theorem none_size {u : ByteArray} (h : u.size = 0) : u.toList = [] ∧ u.toList.isEmpty = true := by
  rw [ByteArray.toList_eq]
  have : u.data.toList = [] := List.length_eq_zero_iff.1 h
  rw [this]; exact ⟨rfl, rfl⟩
theorem some_size {u : ByteArray} (h : ¬ u.size = 0) : ¬ u.toList = [] ∧ u.toList.isEmpty = false := by
  rw [ByteArray.toList_eq]
  have : ¬ u.data.toList = [] := fun e => h (by have := congrArg List.length e; exact this)
  exact ⟨this, by rw [← Bool.not_eq_true, List.isEmpty_iff]; exact this⟩

set_option maxRecDepth 100000 in
set_option maxHeartbeats 2000000 in
theorem Parse6_any (s : ByteArray) (w : World) (hE : PEnv w) (hs : s.size ≤ 2147483648) :
    Calls Tryz.prog 16 #[.string s] w fun e w' => Below w.heap.size w w' ∧ ParseAns w' (parsePP s) e := by
  have hval := textValid_any s w (by omega) hE.u8
  by_cases hv : Lib.validD s.data.toList = true
  · rw [hv] at hval
    go_enter Tryz.func16, Tryz.ntmps16
    go_wp2_with fail
    refine hval.mono ?_
    rintro e w1 ⟨rfl, hb1⟩
    obtain ⟨m, hm⟩ := (hE.below hb1).maxLen
    have hsp := Tryz.strings_SplitN s ⟨#[46]⟩ 9 m w1 (by omega) hm (by decide) (by omega) (by omega)
    obtain ⟨n1, n2, n3⟩ := split_nine s
    have nN : (Lib.splitB ⟨#[46]⟩ 0 (min 9 (s.size + 1) - 1) s).length ≤ min 9 (s.size + 1) := by
      have := Lib.splitB_length_le ⟨#[46]⟩ 0 (min 9 (s.size + 1) - 1) s
      omega
    obtain ⟨N, hN⟩ : ∃ N, min 9 (s.size + 1) = N := ⟨_, rfl⟩
    have hN9 : N ≤ 9 := by omega
    rw [hN] at hsp n1 n2 n3 nN
    generalize Lib.splitB ⟨#[46]⟩ 0 (N - 1) s = xs at *
    have hE0 := (show Hid _ from hE)
    clear hval hN hE
    go_wp2_with fail
    refine hsp.mono ?_
    rintro e w2 ⟨rfl, rfl⟩
    have hb2 : Below w.heap.size w (w1.alloc (.cells (Lib.cellsOf xs N) 9)) := hb1.alloc hb1.size _
    have hcell : ∀ (j : Nat) (u : ByteArray), xs[j]? = some u → (w1.alloc (.cells (Lib.cellsOf xs N) 9)).cell? ⟨w1.heap.size, j, none⟩ = some (.string u) := by
      intro j u hj
      have hg := heap_alloc_new w1 (.cells (Lib.cellsOf xs N) 9)
      have hjl : j < xs.length := (List.getElem?_eq_some_iff.1 hj).1
      have : (Lib.cellsOf xs N)[j]? = some (.string u) := by
        simp only [Lib.cellsOf, List.getElem?_toArray]
        rw [List.getElem?_append_left (by simpa using hjl), List.getElem?_map, hj]; rfl
      exact cell_of_heap hg this
    generalize hW2 : w1.alloc (.cells (Lib.cellsOf xs N) 9) = w2 at *
    have hS2 : StrsAt w2 (.slice (some ⟨w1.heap.size, 0, none⟩) xs.length N) xs := ⟨_, N, rfl, nN, by omega, fun _ => ⟨_, 0, rfl, fun j u hj => by rw [Nat.zero_add]; exact hcell j u hj⟩⟩
    clear hsp
    go_wp2
    go_loopg [5, 6, 15] xs.length (fun gg _ _ i wr => ∃ k : Nat, k ≤ xs.length ∧ k ≤ 8 ∧ xs.length - k ≤ gg ∧ i = .int .i64 k ∧ Aside (wr = w2 ∧ ∀ j u, j < k → xs[j]? = some u → goodPart u))
    case atStart => exact ⟨0, Nat.zero_le _, Nat.zero_le _, by omega, rfl, rfl, fun j _ hj => absurd hj (Nat.not_lt_zero _)⟩
    case round =>
      obtain ⟨k, hk, hk8, hgg, rfl, R⟩ := hrel
      obtain ⟨rfl, hgood⟩ := R.out
      by_cases hlt : k < xs.length
      · obtain ⟨u, hu⟩ : ∃ u, xs[k]? = some u := ⟨_, List.getElem?_eq_getElem hlt⟩
        have c0 := hcell k u hu
        have zk : (k : Int) < (xs.length : Int) := by omega
        have hwr := wrong_any k (by omega) wr (hE0.out.below hb2)
        by_cases h8 : k = 8
        · subst h8
          have hwr8 : Calls Tryz.prog 23 #[.int .i64 8] wr fun e w' => ∃ u z, e = .returned (.iface u z) ∧ Flt 6 w' (.iface u z) ∧ Below wr.heap.size wr w' := hwr
          have hno : parsePP s = none := parse_bad fun hh => by
            have := n2 hh.2.1
            rw [this] at hlt; omega
          clear hcell hgood n1 n2 n3 hwr
          go_wp2_with fail
          refine hwr8.mono ?_
          rintro e w3 ⟨ue, ze, rfl, hf, hb3⟩
          go_wp2
          go_ret2
          rw [hno]
          exact ⟨hb2.trans (hb3.mono hb2.size), ue, ze, rfl, hf⟩
        · have z8 : ((k : Int) == 8) = false := by simp; omega
          by_cases hg : goodPart u
          · obtain ⟨q1, q2⟩ := some_size (u := u) (by have := hg.1; omega)
            have z32 : ¬ (32 : Int) < (u.size : Int) := by have := hg.2; omega
            have hg2 : ∀ j u, j < k + 1 → xs[j]? = some u → goodPart u := by
              intro j u' hj hu'
              by_cases e : j = k
              · subst e
                rw [hu] at hu'
                cases hu'
                exact hg
              · exact hgood j u' (by omega) hu'
            have Q := (show Aside _ from And.intro (rfl : wr = wr) hg2)
            clear hcell hgood n1 n2 n3 hwr hg2
            go_wp2
            go_roundg (xs.length - (k + 1))
            case measure => omega
            case rel => exact ⟨k + 1, by omega, by omega, by omega, by go_num, (show Aside _ from And.intro rfl Q.out.2)⟩
          · have hno : parsePP s = none := parse_bad fun hh => by
              have e := n2 hh.2.1
              rw [e] at hu
              exact hg (hh.2.2 u (List.mem_of_getElem? hu))
            by_cases q : u.size = 0
            · obtain ⟨q1, q2⟩ := none_size q
              clear hcell hgood n1 n2 n3
              go_wp2_with fail
              refine hwr.mono ?_
              rintro e w3 ⟨ue, ze, rfl, hf, hb3⟩
              go_wp2
              go_ret2
              rw [hno]
              exact ⟨hb2.trans (hb3.mono hb2.size), ue, ze, rfl, hf⟩
            · obtain ⟨q1, q2⟩ := some_size q
              have z32 : (32 : Int) < (u.size : Int) := by
                have : ¬ (1 ≤ u.size ∧ u.size ≤ 32) := hg
                omega
              clear hcell hgood n1 n2 n3
              go_wp2_with fail
              refine hwr.mono ?_
              rintro e w3 ⟨ue, ze, rfl, hf, hb3⟩
              go_wp2
              go_ret2
              rw [hno]
              exact ⟨hb2.trans (hb3.mono hb2.size), ue, ze, rfl, hf⟩
      · have zk : ¬ (k : Int) < (xs.length : Int) := by omega
        have hyes : parsePP s = some xs := by
          have hD : (dots s).length ≤ 8 := by
            rcases Nat.lt_or_ge 8 (dots s).length with h | h
            · have := n3 h; omega
            · exact h
          rw [n2 hD]
          refine parse_good ⟨hv, hD, fun p hp => ?_⟩
          rw [← n2 hD] at hp
          obtain ⟨j, hj⟩ := List.mem_iff_getElem?.1 hp
          exact hgood j p (by have := (List.getElem?_eq_some_iff.1 hj).1; omega) hj
        clear hcell hgood n1 n2 n3
        go_wp2
        go_ret2
        try rw [hyes]
        exact ⟨hb2, _, rfl, hS2⟩
  · have hv' : Lib.validD s.data.toList = false := by simpa using hv
    have hno : parsePP s = none := parse_bad fun hh => hv hh.1
    rw [hv'] at hval
    go_enter Tryz.func16, Tryz.ntmps16
    go_wp2_with fail
    refine hval.mono ?_
    rintro e w1 ⟨rfl, hb1⟩
    clear hval
    go_wp2_with fail
    refine (New_some 6 rfl _ _).mono ?_
    rintro e w2 ⟨rfl, rfl⟩
    go_wp2
    go_ret2
    rw [hno]
    exact ⟨hb1.alloc hb1.size _, _, _, rfl, new_flt⟩
end Go.Proofs.YtgcccihnlecpnaaGreatDoor
