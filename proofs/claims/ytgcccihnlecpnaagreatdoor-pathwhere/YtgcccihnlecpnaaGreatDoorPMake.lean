/-
  package path's stepOrMake by its contract. Conditions: as stated (parts of at most 2^40 bytes; room for one more field).
-/
import Derived.Test.YtgcccihnlecpnaaGreatDoorPSpot
namespace Go.Proofs.YtgcccihnlecpnaaGreatDoor
open Go.RowKit

theorem getF_none_all {name : ByteArray} : ∀ {fs : List (ByteArray × V)}, getF name fs = none → ∀ p ∈ fs, isName name p = false
  | [], _, _, h => by cases h
  | f :: fs, h, p, hp => by
    rw [getF_cons] at h
    by_cases h0 : cmpT f.1 name = 0
    · rw [if_pos h0] at h; cases h
    · rw [if_neg h0] at h
      rcases List.mem_cons.1 hp with rfl | hp
      · exact decide_eq_false h0
      · exact getF_none_all h p hp
theorem where_ins {name : ByteArray} {x : V} {fs : List (ByteArray × V)} {j : Nat} (hn : getF name fs = none) (ha : aboveI name fs = (j : Nat)) : (insF name x fs)[j]? = some (name, x) ∧ whereI (isName name) (insF name x fs) = (j : Nat) := by
  obtain ⟨j1, a1, a2, a3⟩ := where_above name x fs
  obtain rfl : j1 = j := by rw [a1] at ha; omega
  have hl : (fs.take j1).length = j1 := by rw [List.length_take]; omega
  have hg : (insF name x fs)[j1]? = some (name, x) := by
    rw [a3, List.getElem?_append_right (by omega), hl, Nat.sub_self]; rfl
  refine ⟨hg, whereI_hit _ j1 _ _ hg ?_ fun i y hi hy => ?_⟩
  · exact decide_eq_true (good_cmpT.refl _)
  · rw [a3, List.getElem?_append_left (by omega)] at hy
    exact getF_none_all hn y (List.mem_of_mem_take (List.mem_of_getElem? hy))

/-- the field that is new, and all else as a hole around it. -/
theorem set_kid {n : Nat} {w W : World} {v : V} {name : ByteArray} {x : V} {l f : Value} (hx1 : x.list = []) (hx2 : x.fields = []) (h : SetV n w W v name x l f) :
    ∃ (j C c : Nat) (xl xf : Value) (okk : Nat → Prop) (M : Nat), aboveI name v.fields = (j : Nat) ∧ f = .slice (some ⟨C, 0, none⟩) (v.fields.length + 1) c ∧
      Kid okk W l f C (j * 6 + 1) x xl xf (fun y => { v with fields := (insF name x v.fields).set j (name, y) }) ∧ (∀ b, okk b → w.heap.size ≤ b ∧ b < W.heap.size) ∧ Rep okk M W { v with fields := insF name x v.fields } l f := by
  obtain ⟨ok1, ok2, G, j, es, fs, lx, fx, h1, h2, h3, h4, h5, h6, h7, h8, h9, h10, h11, h12⟩ := h
  have hfl : fs.length = v.fields.length := by rw [← h2, List.length_map]
  obtain ⟨j1, a1, a2, a3⟩ := where_above name x v.fields
  obtain rfl : j1 = j := by rw [a1] at h3; omega
  have hln : (fs.take j1 ++ ⟨name, x, lx, fx⟩ :: fs.drop j1).length = fs.length + 1 := by simp; omega
  have hmap : (fs.take j1 ++ (⟨name, x, lx, fx⟩ : Fl) :: fs.drop j1).map Fl.pair = insF name x v.fields := by
    rw [a3, ← h2, List.map_append, List.map_cons, List.map_take, List.map_drop]; rfl
  have hlt : (fs.take j1).length = j1 := by rw [List.length_take]; omega
  have hget : (fs.take j1 ++ (⟨name, x, lx, fx⟩ : Fl) :: fs.drop j1)[j1]? = some ⟨name, x, lx, fx⟩ := by
    rw [List.getElem?_append_right (by omega), hlt, Nat.sub_self]; rfl
  rw [← hln] at h7
  obtain ⟨C, c, rfl, hCl, hC, -⟩ := h7.cells (by rw [hln]; omega)
  subst hC
  obtain ⟨-, cur, b2, b3⟩ := h7.block
  obtain ⟨c0, c1, c2, c3, c4, c5⟩ := h7.fl hget
  have hoth : ∀ (i : Nat) (e' : Fl), i ≠ j1 → (fs.take j1 ++ (⟨name, x, lx, fx⟩ : Fl) :: fs.drop j1)[i]? = some e' → e' ∈ fs := by
    intro i e' hi he
    rcases Nat.lt_or_ge i j1 with hl | hl
    · rw [List.getElem?_append_left (by omega)] at he
      exact List.mem_of_mem_take (List.mem_of_getElem? he)
    · rw [List.getElem?_append_right (by omega), hlt] at he
      obtain ⟨d, hd⟩ : ∃ d, i - j1 = d + 1 := ⟨i - j1 - 1, by omega⟩
      rw [hd, List.getElem?_cons_succ] at he
      exact List.mem_of_mem_drop (List.mem_of_getElem? he)
  have h9' : Rep (fun b => ok2 b ∧ b < W.heap.size) (n + 1) W x lx fx := h9.move fun b hb hl => ⟨⟨hb, hl⟩, rfl⟩
  refine ⟨j1, C, c, lx, fx, fun b => (ok1 b ∧ b < W.heap.size) ∨ (ok2 b ∧ b < W.heap.size) ∨ b = C, n + 2, h3, by rw [hln, hfl], ⟨n + 1, fun b => ok2 b ∧ b < W.heap.size, fun b => ok1 b ∧ b < W.heap.size, ⟨c1, c2, c3, c4, c5, h9.lies⟩, own_bare h9' hx1 hx2, ?_, ⟨cur, _, b2, by rw [hln] at b3; omega⟩, fun b hb => ⟨.inr (.inl hb), fun hh => (h10 b hh.1).2.2 hb.1, (h11 b hb.1).2⟩, fun b hb => ⟨.inl hb, (h10 b hb.1).2.1⟩, .inr (.inr rfl)⟩, fun b hb => ?_, ?_⟩
  · have := hole_field (keep := fun b => ok1 b ∧ b < W.heap.size) (n := n) (v := { v with fields := insF name x v.fields }) h1 hmap h7 hget (h5.move fun b hb hl => ⟨⟨hb, hl⟩, rfl⟩) (fun e' he' => (h6 e' he').move fun b hb hl => ⟨⟨hb, hl⟩, rfl⟩) fun i e' hi he' => (h8 e' (hoth i e' hi he')).move fun b hb hl => ⟨⟨hb, hl⟩, rfl⟩
    exact this
  · rcases hb with hb | hb | rfl
    · exact ⟨(h10 b hb.1).1, hb.2⟩
    · exact ⟨(h11 b hb.1).1, hb.2⟩
    · exact ⟨h12, hCl⟩
  · refine ⟨⟨es, h1, h5.move fun b hb hl => ⟨.inl ⟨hb, hl⟩, rfl⟩, fun e' he' => ((h6 e' he').move fun b hb hl => ⟨.inl ⟨hb, hl⟩, rfl⟩ : Rep _ n W _ _ _).up⟩, ⟨_, hmap, h7.move fun b hb _ => ⟨.inr (.inr hb), rfl⟩, fun u hu => ?_⟩⟩
    obtain ⟨i, hi⟩ := List.mem_iff_getElem?.1 hu
    by_cases hij : i = j1
    · subst hij
      rw [hget] at hi
      cases hi
      exact h9.move fun b hb hl => ⟨.inr (.inl ⟨hb, hl⟩), rfl⟩
    · exact ((h8 u (hoth i u hij hi)).move fun b hb hl => ⟨.inl ⟨hb, hl⟩, rfl⟩ : Rep _ n W _ _ _).up

/-- what stepOrMake tells. -/
def Made6 (z R N k : Nat) (u : V) (F : V → V) (part : ByteArray) (e : Ending) (w' : World) : Prop :=
  (e = .returned (.pointer none) ∧ ∀ ps x, putP u (part :: ps) x = none) ∨
  ∃ (C o' : Nat) (y : V) (yl yf : Value) (G : V → V), e = .returned (.pointer (some ⟨C, o', none⟩)) ∧ Spot z R w' C o' y yl yf (fun x => F (G x)) ∧ Fit N k y ∧ ∀ ps x, putP u (part :: ps) x = (putP y ps x).map G

set_option maxRecDepth 100000 in
set_option maxHeartbeats 2000000 in
theorem make6_any {n : Nat} {ok keep : Nat → Prop} (w0 : World) (R k N B o : Nat) (u : V) (ul uf : Value) (F : V → V) (part : ByteArray) (w : World) (hE0 : PEnv w0) (hB0 : Below w0.heap.size w0 w) (hp : part.size ≤ 1099511627776) (h : SpotW n ok keep w0.heap.size R w B o u ul uf F) (hfit : Fit N (k + 1) u) (hN : N < 1000000) :
    Calls Tryz.prog 22 #[.pointer (some ⟨B, o, none⟩), .string part] w fun e w' => Below w0.heap.size w0 w' ∧ Made6 w0.heap.size R N k u F part e w' := by
  have hcall := step6_any n u ul uf B o part w (hE0.below hB0) hp h.at_
  go_enter Tryz.func22, Tryz.ntmps22
  go_wp2_with fail
  refine hcall.mono ?_
  rintro e w1 ⟨hst, hb1⟩
  have h1 := h.below hb1
  have hbz : Below w0.heap.size w0 w1 := hB0.trans (hb1.mono hB0.size)
  clear hcall
  obtain ⟨c0, c1, c2, c3, c4, hL⟩ := h1.at_
  rcases hst with ⟨hn, rfl⟩ | ⟨h5, j, q, y, C, c, hj, hw, ha, hf, rfl⟩ | ⟨h4, j, y, C, c, hpl, hj, ha, hl, rfl⟩
  · by_cases h5 : u.kind = 5
    · have hgn : getF part u.fields = none := by rw [← at5 h5, hn]
      have hlen : u.fields.length < 1000000 := by have := hfit.2.1; omega
      have hwn : whereI (isName part) u.fields = -1 := by
        rcases where_name part u.fields with ⟨e1, _⟩ | ⟨_, _, _, _, _, e3, _⟩
        · exact e1
        · rw [hgn] at e3; cases e3
      have hset := Set_new_own n u objE ul uf (.slice none 0 0) (.slice none 0 0) part w1 hL (Rep.le (n := 0) ⟨rfl, rfl, rfl, rfl⟩ (Nat.zero_le _)) h5 hwn hlen
      simp only [objE] at hset
      have hsl := Rep.slices hL
      obtain ⟨al, cl, af, cf, rfl, rfl⟩ := hsl
      obtain ⟨cur, t, g1, g2⟩ := h1.row
      have HH := (show Hid _ from And.intro h1 (And.intro hbz (And.intro hgn (And.intro hn (And.intro g1 g2)))))
      rw [h5] at hset c0
      clear h h1 hb1 hbz hgn hn hL g1 g2 hwn
      go_wp2_with fail
      refine hset.mono ?_
      rintro e w2 ⟨l', f', rfl, hsv, hb2⟩
      obtain ⟨h1, hbz, hgn, hn, g1, g2⟩ := HH.out
      have h2 := h1.below hb2
      have hBl : B < w1.heap.size := lt_of_heap g1
      have g1' : w2.heap[B]? = some (.cells cur t (0, 0)) := (hb2.block B hBl).trans g1
      obtain ⟨j, C, c, xl, xf, okk, M, ha, rfl, hkid, hko, hrep⟩ := set_kid (x := objE) rfl rfl hsv
      obtain ⟨al', cl', af', cf', rfl, -⟩ := hrep.slices
      obtain ⟨hsame, d0, d1, d2, d3, d4⟩ := write5_same g1' g2 (.int .i64 5) (.int .i64 u.num) (.string u.text) (.slice al' u.list.length cl') (.slice (some ⟨C, 0, none⟩) (u.fields.length + 1) c)
      have hne := fun (b : Nat) (hb : b ≠ B) => write5_ne w2 B o (.int .i64 5) (.int .i64 u.num) (.string u.text) (.slice al' u.list.length cl') (.slice (some ⟨C, 0, none⟩) (u.fields.length + 1) c) hb
      have hsz := write5_size w2 B o (.int .i64 5) (.int .i64 u.num) (.string u.text) (.slice al' u.list.length cl') (.slice (some ⟨C, 0, none⟩) (u.fields.length + 1) c)
      have hz3 : Below w0.heap.size w0 _ := write5_below (hbz.trans (hb2.mono hbz.size)) h1.le o (.int .i64 5) (.int .i64 u.num) (.string u.text) (.slice al' u.list.length cl') (.slice (some ⟨C, 0, none⟩) (u.fields.length + 1) c)
      obtain ⟨k0, k1, k2, k3, k4, _⟩ := h2.at_
      have hfz := frozen_row g1'
      have hkid3 := hkid.move fun b hb => hne b (by have := hko b hb; omega)
      have hrep3 := hrep.move (ok' := okk) fun b hb _ => ⟨hb, hne b (by have := hko b hb; omega)⟩
      have hcall2 := step6_any M { kind := 5, num := u.num, text := u.text, list := u.list, fields := insF part objE u.fields } _ _ B o part _ (hE0.below hz3) hp ⟨d0, d1, d2, d3, d4, by have := hrep3.lies; rwa [h5] at this⟩
      generalize hW3 : write5 w2 B o (.int .i64 5) (.int .i64 u.num) (.string u.text) (.slice al' u.list.length cl') (.slice (some ⟨C, 0, none⟩) (u.fields.length + 1) c) = W3 at *
      have HW := (show Hid _ from And.intro hsame (And.intro d0 (And.intro d1 (And.intro d2 (And.intro d3 (And.intro d4 (And.intro hne (And.intro hsz (And.intro hz3 (And.intro hkid3 (And.intro h2 (And.intro hko hrep3))))))))))))
      simp only [write5, set5W] at hW3
      clear hsame d0 d1 d2 d3 d4 hne hsz hz3 hkid3 hkid hrep hrep3 h2 h1 hset hbz hsv hb2 hgn hn hko
      go_wp2_with fail
      refine hcall2.mono ?_
      rintro e w4 ⟨hst2, hb4⟩
      obtain ⟨hsame, d0, d1, d2, d3, d4, hne, hsz, hz3, hkid3, h2, hko, hrep3⟩ := HW.out
      obtain ⟨h1, hbz, hgn, hn, g1, g2⟩ := HH.out
      obtain ⟨hgi, hwi⟩ := where_ins (x := objE) hgn ha
      have hat : atP { kind := 5, num := u.num, text := u.text, list := u.list, fields := insF part objE u.fields } part = some objE := by
        rw [at5 rfl]
        rcases where_name part (insF part objE u.fields) with ⟨e1, _⟩ | ⟨j', q', y', e1, e2, e3, _⟩
        · rw [hwi] at e1; omega
        · obtain rfl : j' = j := by rw [hwi] at e1; omega
          rw [hgi] at e2
          cases e2
          exact e3
      rcases hst2 with ⟨hn2, rfl⟩ | ⟨-, j', q', y', C', c', hj', hw', ha', hf', rfl⟩ | ⟨h4, _⟩
      · rw [hat] at hn2; cases hn2
      · obtain rfl : j' = j := by rw [hwi] at hw'; omega
        simp only [Value.slice.injEq, Option.some.injEq, Addr.mk.injEq] at hf'
        obtain ⟨⟨rfl, -⟩, -, -⟩ := hf'
        have hspot : Spot w0.heap.size R W3 C (j' * 6 + 1) objE xl xf _ := h2.sub (u' := u) hkid3 (fun b hb => hne b fun e => h2.apart (e ▸ hb)) (fun b hb => by
          have q1 := hko b hb
          refine ⟨fun hk => ?_, by omega, by have := hbz.size; omega, by rw [hsz]; exact q1.2⟩
          have := (h1.keeps b hk).2; omega) hsame (by rw [h5]; exact d0) d1 d2 d3 d4 (fun _ => ⟨rfl, rfl, rfl⟩) (by rw [hsz]; exact Nat.le_refl _)
        clear hcall2 hsame d0 d1 d2 d3 d4 hne hkid3 h2 hko hrep3 h1 hgi hwi hat
        go_wp2
        go_ret
        exact ⟨hz3.trans (hb4.mono hz3.size), .inr ⟨C, j' * 6 + 1, objE, xl, xf, _, rfl, hspot.below hb4, fit_obj N k, fun ps x => put_made h5 hgn ha ps x⟩⟩
      · cases h4
    · have e5 : (u.kind != 5) = true := by simpa using h5
      clear h h1 hL
      go_wp2
      go_ret
      exact ⟨hbz, .inl ⟨rfl, fun ps x => put_no h5 hn ps x⟩⟩
  · obtain ⟨C', c', yl, yf, hf', hkid⟩ := own_field h1.own hj
    rw [hf] at hf'
    simp only [Value.slice.injEq, Option.some.injEq, Addr.mk.injEq, and_true, true_and] at hf'
    obtain ⟨rfl, rfl⟩ := hf'
    have hspot := h1.kid hkid fun _ => ⟨rfl, rfl, rfl⟩
    have hfy : Fit N k y := hfit.2.2.2 _ (List.mem_of_getElem? hj)
    have hput := fun ps x => put_field h5 hfit.1 hw hj ps x
    clear h h1 hL hkid
    go_wp2
    go_ret
    exact ⟨hbz, .inr ⟨C, j * 6 + 1, y, yl, yf, _, rfl, hspot, hfy, hput⟩⟩
  · obtain ⟨C', c', yl, yf, hl', hkid⟩ := own_list h1.own hj
    rw [hl] at hl'
    simp only [Value.slice.injEq, Option.some.injEq, Addr.mk.injEq, and_true, true_and] at hl'
    obtain ⟨rfl, rfl⟩ := hl'
    have hspot := h1.kid hkid fun _ => ⟨rfl, rfl, rfl⟩
    have hfy : Fit N k y := hfit.2.2.1 _ (List.mem_of_getElem? hj)
    have hput := fun ps x => put_list h4 hpl hj ps x
    clear h h1 hL hkid
    go_wp2
    go_ret
    exact ⟨hbz, .inr ⟨C, j * 5, y, yl, yf, _, rfl, hspot, hfy, hput⟩⟩
end Go.Proofs.YtgcccihnlecpnaaGreatDoor
