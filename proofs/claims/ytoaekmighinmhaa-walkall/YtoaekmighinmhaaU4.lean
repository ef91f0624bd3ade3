/-
  Where an entry stands among a node's: slices.BinarySearchFunc, place, leaf by their contracts. No conditions beyond those stated.
  Has a node an entry, and where: place, leaf by their contracts. No conditions beyond those stated.
  The law's Texts, Below and Entry by their contracts. No conditions.
  What a node's own entries tell of all that is below it: on which side of a kid the others stand. No conditions beyond those stated.
  Has a tree an entry: by its contract. Conditions: as stated.
  The first and the last entry of a tree by their contracts. Conditions: as stated.
-/
import Derived.Test.YtoaekmighinmhaaU3
import Derived.Test.YtoaekmighinmhaaU1
import Derived.Deep.DrawnRows
namespace Go.Proofs.Ytoaekmighinmhaa
open Go.RowKit Go.Sort

theorem slice_of_row {base : Nat} {W : World} {t k n : Nat} {s : Value} {xs : List Value} (h : W.ownsRow base t k s n xs) : ∃ a c, s = .slice a n c := by
  rcases h.2 with ⟨rfl, rfl⟩ | ⟨g, cap, cur, rfl, _⟩
  · exact ⟨_, _, rfl⟩
  · exact ⟨_, _, rfl⟩
theorem own_cells0 {base k m : Nat} {w : World} {ty : TypeId} {v : Value} {xs : List Value} (h : w.ownsRow base ty k v m xs) (hm : 0 < m) : ∃ B c, v = .slice (some ⟨B, 0, none⟩) m c ∧ m ≤ c ∧ c ≤ 9223372036854775807 ∧ (∀ j u, xs[j]? = some u → w.cell? ⟨B, j, none⟩ = some u) ∧ ∀ j, w.frozen? ⟨B, j, none⟩ = false := by
  rcases h.2 with ⟨rfl, rfl⟩ | ⟨g, cap, cur, rfl, hb, hg, h1, h2, h3, h4⟩
  · omega
  · refine ⟨g, cap, rfl, h1, by unfold maxLen at h2; omega, fun j u hj => ?_, fun j => by simp [World.frozen?, hg]⟩
    have := h.cells (g := g) rfl j u hj
    rwa [Addr.add_lit, Nat.zero_add] at this
theorem vc0 (B n c : Nat) : vc B (.slice (some ⟨B, 0, none⟩) n c) ≠ 0 := by rw [vc_of rfl]; omega
theorem Below.drop_drew {B : Nat} {w W : World} (h : Below B w.drew W) : Below B w W := ⟨h.os, h.tape, h.output, h.size, h.block⟩
theorem entersCompare (args : Array Value) (w : World) : (callFunc 44 args).run Try.prog w = .ok (.enter 44 args) w := enters_of Try.func44 (by kernel_rfl) rfl args w

/-- how many stand ahead of one. -/
def ahE (e : En) : List En → Nat
  | [] => 0
  | x :: l => if cmpE x e < 0 then ahE e l + 1 else 0
theorem ah_le (e : En) : ∀ l, ahE e l ≤ l.length
  | [] => Nat.le_refl _
  | x :: l => by unfold ahE; split <;> simp [ah_le e l]
theorem ah_lt (e : En) : ∀ (l : List En) (j : Nat) (x : En), j < ahE e l → l[j]? = some x → cmpE x e < 0
  | [], _, _, h, _ => by simp [ahE] at h
  | y :: l, j, x, h, hx => by
    unfold ahE at h
    split at h
    · rename_i hy
      cases j with
      | zero => simp at hx; rw [← hx]; exact hy
      | succ j => exact ah_lt e l j x (by omega) (by simpa using hx)
    · omega
theorem ah_ge {e : En} : ∀ {l : List En}, SortE l → ∀ (j : Nat) (x : En), ahE e l ≤ j → l[j]? = some x → 0 ≤ cmpE x e
  | [], _, _, _, _, hx => by simp at hx
  | y :: l, hs, j, x, h, hx => by
    have h1 := List.pairwise_cons.1 hs
    unfold ahE at h
    split at h
    · cases j with
      | zero => omega
      | succ j => exact ah_ge h1.2 j x (by omega) (by simpa using hx)
    · rename_i hy
      cases j with
      | zero => simp at hx; rw [← hx]; omega
      | succ j =>
        have h2 := h1.1 x (List.mem_of_getElem? (by simpa using hx))
        refine Int.not_lt.1 fun hc => hy (ltE_trans h2 hc)
theorem ah_find {e : En} {l : List En} (hs : SortE l) : l[ahE e l]? = some e ↔ e ∈ l := by
  constructor
  · exact fun h => List.mem_of_getElem? h
  · intro h
    obtain ⟨j, hj⟩ := List.mem_iff_getElem?.1 h
    have h0 : cmpE e e = 0 := good_cmpE.refl e
    rcases Nat.lt_trichotomy j (ahE e l) with h1 | h1 | h1
    · have := ah_lt e l j e h1 hj; omega
    · rw [← h1]; exact hj
    · have hl := (List.getElem?_eq_some_iff.1 hj).1
      obtain ⟨y, hy⟩ : ∃ y, l[ahE e l]? = some y := ⟨_, List.getElem?_eq_getElem (by omega)⟩
      have h2 := ah_ge hs _ y (Nat.le_refl _) hy
      have h3 : cmpE y e < 0 := by
        have h4 := List.pairwise_iff_getElem.1 hs _ _ (by omega) hl h1
        rw [List.getElem?_eq_getElem (by omega)] at hy
        rw [List.getElem?_eq_getElem hl] at hj
        rw [Option.some.inj hy, Option.some.inj hj] at h4
        exact h4
      omega

set_option maxRecDepth 100000 in
set_option maxHeartbeats 2000000 in
theorem SearchE_any (base : Nat) (xs : List En) (sa : Value) (k : En) (w : World)
    (ha : w.ownsRow base 34 2 sa xs.length (encEns xs)) (na : xs.length ≤ 1000000) (r : Nat) (p : Bool) (hr : r ≤ xs.length)
    (h1 : ∀ j x, j < r → xs[j]? = some x → cmpE x k < 0) (h2 : ∀ j x, r ≤ j → xs[j]? = some x → 0 ≤ cmpE x k) (hp : ∀ x, xs[r]? = some x → (cmpE x k == 0) = p) (hp0 : r = xs.length → p = false) :
    Calls Try.prog 43 #[sa, .agg #[.string k.1, .int .i64 k.2], .func (.func 44) #[] #[]] w fun e w' => e = .returned (.tuple #[.int .i64 (r : Int), .bool p]) ∧ Below w.heap.size w w' := by
  obtain ⟨aa, ca, rfl⟩ := slice_of_row ha
  obtain ⟨kk, ki⟩ := k
  have eF := entersCompare
  have HH := (show Hid _ from And.intro h1 (And.intro h2 (And.intro hp hp0)))
  clear h1 h2 hp hp0
  go_enter Try.func43, Try.ntmps43
  go_wp2
  obtain ⟨W0, hW0⟩ : ∃ W0, w.alloc (.cells #[.string kk, .int .i64 ki] 34) = W0 := ⟨_, rfl⟩
  rw [hW0]
  have hwW : Below w.heap.size w W0 := by rw [← hW0]; exact (Below.refl _ _).alloc (Nat.le_refl _) _
  have hs0 : W0.heap.size = w.heap.size + 1 := by rw [← hW0]; simp
  have r0 : W0.heap[w.heap.size]? = some (.cells #[.string kk, .int .i64 ki] 34) := by rw [← hW0]; exact heap_alloc_new _ _
  have T0 := (show Hid _ from And.intro hwW (And.intro hs0 r0))
  have ha0 : W0.ownsRow base 34 2 (.slice aa xs.length ca) xs.length (encEns xs) := own_keep ha fun a hv => hwW.block a (own_lt ha hv)
  clear hW0 hwW hs0 r0 ha
  go_loopg [9, 10, 11] xs.length (fun gg i j _ wr => ∃ a b : Nat, a ≤ r ∧ r ≤ b ∧ b ≤ xs.length ∧ b - a ≤ gg ∧ i = .int .i64 a ∧ j = .int .i64 b ∧ Aside (Below W0.heap.size W0 wr))
  case atStart => exact ⟨0, xs.length, Nat.zero_le _, hr, Nat.le_refl _, by omega, rfl, rfl, Below.refl _ W0⟩
  case round =>
    obtain ⟨a, b, hra, hrb, hbl, hgg, rfl, rfl, BW⟩ := hrel
    have k0 : wr.cell? ⟨w.heap.size, 0, none⟩ = some (.string kk) := (BW.out.cell (p := ⟨w.heap.size, 0, none⟩) (by rw [T0.out.2.1]; simp)).trans (by simp [World.cell?, T0.out.2.2])
    have k1 : wr.cell? ⟨w.heap.size, 1, none⟩ = some (.int .i64 ki) := (BW.out.cell (p := ⟨w.heap.size, 1, none⟩) (by rw [T0.out.2.1]; simp)).trans (by simp [World.cell?, T0.out.2.2])
    by_cases hlt : a < b
    · have zk : (a : Int) < (b : Int) := by omega
      obtain ⟨m, hm⟩ : ∃ m : Nat, ((a : Int) + (b : Int)) / 2 = (m : Int) := ⟨(a + b) / 2, by omega⟩
      have hma : a ≤ m := by omega
      have hmb : m < b := by omega
      obtain ⟨b0, c', e1, hc1, hc2, hcell, _⟩ := own_cells0 ha0 (by omega)
      simp only [Value.slice.injEq, true_and] at e1
      obtain ⟨rfl, rfl⟩ := e1
      obtain ⟨⟨xk, xi⟩, hx⟩ : ∃ x, xs[m]? = some x := ⟨_, List.getElem?_eq_getElem (by omega)⟩
      have a0 := (BW.out.cell (p := ⟨b0, m * 2 + 0, none⟩) (own_lt ha0 (vc0 _ _ _))).trans (hcell _ _ (flat_at encEn_len xs m 0 _ _ hx rfl))
      have a1 := (BW.out.cell (p := ⟨b0, m * 2 + 1, none⟩) (own_lt ha0 (vc0 _ _ _))).trans (hcell _ _ (flat_at encEn_len xs m 1 _ _ hx rfl))
      rw [Nat.add_zero] at a0
      simp only at a0 a1
      have hcall := fun (d : Nat) (os : Array Obj) => Calls.regrown_of (compare_any (xk, xi) (kk, ki) (grow (redrawn wr d) os))
      have zm : (m : Int) < (xs.length : Int) := by omega
      have HX := (show Hid _ from hx)
      obtain ⟨c, hc⟩ : ∃ c, cmpE (xk, xi) (kk, ki) = c := ⟨_, rfl⟩
      have HC := (show Hid _ from hc)
      rw [hc] at hcall
      clear hx hcell hc ha0
      by_cases hc0 : c < 0
      · have hnr : m + 1 ≤ r := by
          rcases Nat.lt_or_ge m r with h | h
          · omega
          · have h' := HH.out.2.1 m _ h HX.out
            rw [HC.out] at h'
            omega
        have G0 := cell_regrown a0
        have G1 := cell_regrown a1
        have G2 := cell_regrown k0
        have G3 := cell_regrown k1
        clear a0 a1 k0 k1
        go_wp2_with fail
        refine wp_region_quiet_below mixed (by kernel_rfl) ?_
        iterate 6 go_big_quiet_step (fail)
        go_big_quiet_step (exact hcall _ _)
        go_big_quiet_step (fail)
        refine wpQuiet_nil ?_
        rintro w' ⟨⟨dq, osq⟩, hw'⟩
        have hb' : Below wr.heap.size wr w' := by rw [hw']; exact below_regrown _ dq osq
        clear hw' G0 G1 G2 G3 hcall
        go_wp2
        go_roundg (b - (m + 1))
        case measure => omega
        case rel => exact ⟨m + 1, b, by omega, by omega, by omega, by omega, by go_num, rfl, BW.out.trans (hb'.mono BW.out.size)⟩
      · have hnr : r ≤ m := by
          rcases Nat.lt_or_ge m r with h | h
          · exact absurd (by rw [← HC.out]; exact HH.out.1 m _ h HX.out) hc0
          · omega
        have G0 := cell_regrown a0
        have G1 := cell_regrown a1
        have G2 := cell_regrown k0
        have G3 := cell_regrown k1
        clear a0 a1 k0 k1
        go_wp2_with fail
        refine wp_region_quiet_below mixed (by kernel_rfl) ?_
        iterate 6 go_big_quiet_step (fail)
        go_big_quiet_step (exact hcall _ _)
        go_big_quiet_step (fail)
        refine wpQuiet_nil ?_
        rintro w' ⟨⟨dq, osq⟩, hw'⟩
        have hb' : Below wr.heap.size wr w' := by rw [hw']; exact below_regrown _ dq osq
        clear hw' G0 G1 G2 G3 hcall
        go_wp2
        go_roundg (m - a)
        case measure => omega
        case rel => exact ⟨a, m, by omega, by omega, by omega, by omega, rfl, rfl, BW.out.trans (hb'.mono BW.out.size)⟩
    · obtain rfl : r = a := by omega
      obtain rfl : b = r := by omega
      have zk : ¬ (b : Int) < (b : Int) := by omega
      by_cases hz : b < xs.length
      · obtain ⟨b0, c', e1, hc1, hc2, hcell, _⟩ := own_cells0 ha0 (by omega)
        simp only [Value.slice.injEq, true_and] at e1
        obtain ⟨rfl, rfl⟩ := e1
        obtain ⟨⟨xk, xi⟩, hx⟩ : ∃ x, xs[b]? = some x := ⟨_, List.getElem?_eq_getElem (by omega)⟩
        have a0 := (BW.out.cell (p := ⟨b0, b * 2 + 0, none⟩) (own_lt ha0 (vc0 _ _ _))).trans (hcell _ _ (flat_at encEn_len xs b 0 _ _ hx rfl))
        have a1 := (BW.out.cell (p := ⟨b0, b * 2 + 1, none⟩) (own_lt ha0 (vc0 _ _ _))).trans (hcell _ _ (flat_at encEn_len xs b 1 _ _ hx rfl))
        rw [Nat.add_zero] at a0
        simp only at a0 a1
        have hcall := fun (d : Nat) (os : Array Obj) => Calls.regrown_of (compare_any (xk, xi) (kk, ki) (grow (redrawn wr d) os))
        have hpx := HH.out.2.2.1 _ hx
        obtain ⟨c, hc⟩ : ∃ c, cmpE (xk, xi) (kk, ki) = c := ⟨_, rfl⟩
        rw [hc] at hcall hpx
        have zm : (b : Int) < (xs.length : Int) := by omega
        clear hx hcell hc ha0
        have G0 := cell_regrown a0
        have G1 := cell_regrown a1
        have G2 := cell_regrown k0
        have G3 := cell_regrown k1
        clear a0 a1 k0 k1
        go_wp2_with fail
        refine wp_region_quiet_below mixed (by kernel_rfl) ?_
        iterate 11 go_big_quiet_step (fail)
        go_big_quiet_step (exact hcall _ _)
        iterate 4 go_big_quiet_step (fail)
        refine wpQuiet_nil ?_
        rintro w' ⟨⟨dq, osq⟩, hw'⟩
        have hb' : Below wr.heap.size wr w' := by rw [hw']; exact below_regrown _ dq osq
        clear hw' G0 G1 G2 G3 hcall
        go_wp2
        go_ret2
        exact ⟨by rw [← hpx]; rfl, T0.out.1.trans ((BW.out.trans (hb'.mono BW.out.size)).mono T0.out.1.size)⟩
      · have zm : ¬ (b : Int) < (xs.length : Int) := by omega
        have hpf := HH.out.2.2.2 (by omega)
        subst hpf
        clear ha0 k0 k1
        go_wp2_with fail
        refine wp_region_quiet_below mixed (by kernel_rfl) ?_
        iterate 16 go_big_quiet_step (fail)
        refine wpQuiet_nil ?_
        rintro w' ⟨⟨dq, osq⟩, hw'⟩
        have hb' : Below wr.heap.size wr w' := by rw [hw']; exact below_regrown _ dq osq
        clear hw'
        go_wp2_with fail
        go_ret2
        exact ⟨rfl, T0.out.1.trans ((BW.out.trans (hb'.mono BW.out.size)).mono T0.out.1.size)⟩
end Go.Proofs.Ytoaekmighinmhaa

namespace Go.Proofs.Ytoaekmighinmhaa
open Go.RowKit Go.Sort

/-- is an entry one of them? -/
def hasE (e : En) (l : List En) : Bool := l.any fun x => cmpE x e == 0
theorem hasE_iff {e : En} {l : List En} : hasE e l = true ↔ e ∈ l := by
  unfold hasE
  rw [List.any_eq_true]
  constructor
  · rintro ⟨x, hx, he⟩
    have := cmpE_eq (by simpa using he)
    rw [← this]; exact hx
  · exact fun h => ⟨e, h, by simp [good_cmpE.refl]⟩
theorem hasE_not {e : En} {l : List En} : hasE e l = false ↔ e ∉ l := by
  rw [← Bool.not_eq_true, hasE_iff]
/-- an entry that comes in lies in a block of its own. -/
theorem box_any (w : World) (k : ByteArray) (i : Int) : ∃ W0, w.alloc (.cells #[.string k, .int .i64 i] 34) = W0 ∧ Below w.heap.size w W0 ∧ W0.heap.size = w.heap.size + 1 ∧ W0.cell? ⟨w.heap.size, 0, none⟩ = some (.string k) ∧ W0.cell? ⟨w.heap.size, 1, none⟩ = some (.int .i64 i) := by
  obtain ⟨W0, hW0⟩ : ∃ W0, w.alloc (.cells #[.string k, .int .i64 i] 34) = W0 := ⟨_, rfl⟩
  have r0 : W0.heap[w.heap.size]? = some (.cells #[.string k, .int .i64 i] 34) := by rw [← hW0]; exact heap_alloc_new _ _
  refine ⟨W0, hW0, by rw [← hW0]; exact (Below.refl _ _).alloc (Nat.le_refl _) _, by rw [← hW0]; simp, ?_, ?_⟩
  · simp [World.cell?, r0]
  · simp [World.cell?, r0]
theorem place_any {t : Nd} (e : En) (w : World) (h : Sh w t) (hs : SortE t.es) (hn : t.es.length ≤ 1000000) :
    Calls Try.prog 32 #[.pointer (some ⟨t.b, 0, none⟩), .agg #[.string e.1, .int .i64 e.2]] w fun r w' => r = .returned (.tuple #[.int .i64 (ahE e t.es : Int), .bool (hasE e t.es)]) ∧ Below w.heap.size w w' := by
  have hcall0 := fun W (hW : Below w.heap.size w W) => SearchE_any 0 t.es t.s e W (h.below hW).es hn (ahE e t.es) (hasE e t.es) (ah_le e _) (fun j x => ah_lt e _ j x) (fun j x => ah_ge hs j x)
    (fun x hx => by
      cases he : hasE e t.es with
      | true =>
        have := (ah_find hs).2 (hasE_iff.1 he)
        rw [this] at hx
        cases hx
        rw [good_cmpE.refl]
        rfl
      | false =>
        refine beq_false_of_ne fun h => hasE_not.1 he ?_
        have := cmpE_eq h
        rw [← this]; exact List.mem_of_getElem? hx)
    (fun h => by
      refine hasE_not.2 fun he => ?_
      have := (List.getElem?_eq_some_iff.1 ((ah_find hs).2 he)).1
      omega)
  obtain ⟨sa, c, ka, d, e1, e2, c0, c1, _⟩ := h.view
  rw [e1] at hcall0
  obtain ⟨ek, ei⟩ := e
  generalize ahE (ek, ei) t.es = q at *
  generalize hasE (ek, ei) t.es = p at *
  obtain ⟨W0, hW0, hwW, hs0, k0, k1⟩ := box_any w ek ei
  have hcall := fun (d : Nat) (os : Array Obj) => Calls.regrown_of (hcall0 (grow (redrawn W0 d) os) (hwW.trans ((below_regrown _ d os).mono hwW.size)))
  have G0 := cell_regrown ((hwW.cell (lt_of_cell c0)).trans c0)
  have G1 := cell_regrown k0
  have G2 := cell_regrown k1
  clear h hs e1 e2 hcall0 k0 k1 c0 c1
  go_enter Try.func32, Try.ntmps32
  go_wp2_with fail
  refine wp_region_quiet_below mixed (by kernel_rfl) ?_
  iterate 5 go_big_quiet_step (fail)
  go_big_quiet_step (exact hcall _ _)
  iterate 4 go_big_quiet_step (fail)
  refine wpQuiet_nil ?_
  rintro w' ⟨⟨dq, osq⟩, hw'⟩
  have hb' : Below W0.heap.size W0 w' := by rw [hw']; exact below_regrown _ dq osq
  clear hw' G0 G1 G2 hcall hW0
  go_wp2
  go_ret2
  exact ⟨rfl, hwW.trans (hb'.mono hwW.size)⟩
theorem int_zero (q : Nat) : ((q : Int) == 0) = decide (q = 0) := by
  rw [Bool.eq_iff_iff]
  simp
theorem leaf_any {t : Nd} (w : World) (h : Sh w t) :
    Calls Try.prog 33 #[.pointer (some ⟨t.b, 0, none⟩)] w fun r w' => r = .returned (.bool (decide (t.kids.length = 0))) ∧ w' = w := by
  obtain ⟨sa, c, ka, d, e1, e2, c0, c1, _⟩ := h.view
  generalize t.kids.length = q at *
  clear h e1 e2
  go_enter Try.func33, Try.ntmps33
  go_wp2_with fail
  go_ret
  exact ⟨by simp [int_zero], rfl⟩
theorem leaf_below {t : Nd} (w : World) (h : Sh w t) :
    Calls Try.prog 33 #[.pointer (some ⟨t.b, 0, none⟩)] w fun r w' => r = .returned (.bool (decide (t.kids.length = 0))) ∧ Below w.heap.size w w' :=
  (leaf_any w h).mono fun r w' k => ⟨k.1, by rw [k.2]; exact Below.refl _ _⟩
theorem Sh.entryv {w : World} {t : Nd} {i : Nat} {x : En} (h : Sh w t) (hx : t.es[i]? = some x) : ∃ B c, t.s = .slice (some ⟨B, 0, none⟩) t.es.length c ∧ t.es.length ≤ c ∧ c ≤ 9223372036854775807 ∧ w.cell? ⟨t.b, 0, none⟩ = some (.slice (some ⟨B, 0, none⟩) t.es.length c) ∧ w.cell? ⟨B, i * 2, none⟩ = some (.string x.1) ∧ w.cell? ⟨B, i * 2 + 1, none⟩ = some (.int .i64 x.2) ∧ ∀ j, w.frozen? ⟨B, j, none⟩ = false := by
  obtain ⟨B, c, e, h1, h2, h3, h4, h5⟩ := h.entry hx
  refine ⟨B, c, e, h1, h2, ?_, h3, h4, h5⟩
  rw [← e]; simp [World.cell?, h.node]
theorem Sh.kidv {w : World} {t : Nd} {i : Nat} {k : Nd} (h : Sh w t) (hx : t.kids[i]? = some k) : ∃ B c, t.k = .slice (some ⟨B, 0, none⟩) t.kids.length c ∧ t.kids.length ≤ c ∧ c ≤ 9223372036854775807 ∧ w.cell? ⟨t.b, 1, none⟩ = some (.slice (some ⟨B, 0, none⟩) t.kids.length c) ∧ w.cell? ⟨B, i, none⟩ = some (.pointer (some ⟨k.b, 0, none⟩)) ∧ ∀ j, w.frozen? ⟨B, j, none⟩ = false := by
  obtain ⟨B, c, e, h1, h2, h3, h4⟩ := h.kid hx
  refine ⟨B, c, e, h1, h2, ?_, h3, h4⟩
  rw [← e]; simp [World.cell?, h.node]
end Go.Proofs.Ytoaekmighinmhaa

namespace Go.Proofs.Ytoaekmighinmhaa
open Go.RowKit
attribute [local go_sem ↓] Go.wp_at_zero Go.wp_at_succ

theorem beq_cmpT (a b : ByteArray) : (a.toList == b.toList) = decide (cmpT a b = 0) := by
  by_cases h : cmpT a b = 0
  · rw [cmpT_eq h]; simp [good_cmpT.refl]
  · have hne : ¬ a.toList = b.toList := fun e => h (by unfold cmpT; rw [e]; exact good_cmpT.refl b)
    rw [decide_eq_false h]; exact beq_false_of_ne hne
theorem cmpT_range (a b : ByteArray) : cmpT a b = -1 ∨ cmpT a b = 0 ∨ cmpT a b = 1 := cmpB_range _ _
theorem Texts_any (a b : ByteArray) (w : World) : Calls Try.prog 31 #[.string a, .string b] w fun e w' => e = .returned (.int .i64 (cmpT a b)) ∧ w' = w := by
  have hl : Op.bytesLess a.toList b.toList = decide (cmpT a b < 0) := bytesLess_eq _ _
  have hg := beq_cmpT a b
  have hr := cmpT_range a b
  generalize cmpT a b = r at *
  rcases hr with rfl | rfl | rfl
  · simp only [show decide ((-1 : Int) < 0) = true from rfl, show decide ((-1 : Int) = 0) = false from rfl] at hl hg
    go_enter Try.func31, Try.ntmps31
    go_wp2
    go_ret
    exact ⟨rfl, rfl⟩
  · simp only [show decide ((0 : Int) < 0) = false from rfl] at hl hg
    go_enter Try.func31, Try.ntmps31
    go_wp2
    go_ret
    exact ⟨rfl, rfl⟩
  · simp only [show decide ((1 : Int) < 0) = false from rfl, show decide ((1 : Int) = 0) = false from rfl] at hl hg
    go_enter Try.func31, Try.ntmps31
    go_wp2
    go_ret
    exact ⟨rfl, rfl⟩

theorem ltE_form (ak : ByteArray) (ai : Int) (bk : ByteArray) (bi : Int) : decide (cmpE (ak, ai) (bk, bi) < 0) = (decide (cmpT ak bk < 0) || (decide (cmpT ak bk = 0) && decide (ai < bi))) := by
  have hr := cmpT_range ak bk
  unfold cmpE cmpI
  simp only
  by_cases h0 : cmpT ak bk = 0
  · rw [if_pos h0, h0]
    by_cases h1 : ai < bi
    · simp [h1]
    · rw [if_neg h1]
      simp only [h1]
      split <;> simp
  · rw [if_neg h0]
    simp [h0]
/-- an entry that comes in, and another one. -/
theorem Below_any (a b : En) (w : World) : Calls Try.prog 23 #[.agg #[.string a.1, .int .i64 a.2], .agg #[.string b.1, .int .i64 b.2]] w fun e w' => e = .returned (.bool (decide (cmpE a b < 0))) ∧ Below w.heap.size w w' := by
  obtain ⟨ak, ai⟩ := a
  obtain ⟨bk, bi⟩ := b
  obtain ⟨W0, hW0, hwW, hs0, k0, k1⟩ := box_any w ak ai
  obtain ⟨W1, hW1, hwW1, hs1, j0, j1⟩ := box_any W0 bk bi
  have k0' : W1.cell? ⟨w.heap.size, 0, none⟩ = some (.string ak) := (hwW1.cell (by show w.heap.size < _; omega)).trans k0
  have k1' : W1.cell? ⟨w.heap.size, 1, none⟩ = some (.int .i64 ai) := (hwW1.cell (by show w.heap.size < _; omega)).trans k1
  rw [hs0] at j0 j1
  have hb : Below w.heap.size w W1 := hwW.trans (hwW1.mono (by omega))
  have ht := Texts_any ak bk
  have hr := cmpT_range ak bk
  rw [ltE_form]
  generalize cmpT ak bk = r at *
  clear k0 k1 hwW hwW1
  rcases hr with rfl | rfl | rfl
  · go_enter Try.func23, Try.ntmps23
    go_wp2_with fail
    refine (ht _).mono ?_
    rintro e w1 ⟨rfl, hw1⟩
    subst hw1
    go_wp2
    go_ret
    exact ⟨rfl, hb⟩
  · rw [show (decide ((0 : Int) < 0) || decide ((0 : Int) = 0) && decide (ai < bi)) = decide (ai < bi) by simp]
    go_enter Try.func23, Try.ntmps23
    go_wp2_with fail
    refine (ht _).mono ?_
    rintro e w1 ⟨rfl, hw1⟩
    subst hw1
    go_wp2
    go_ret
    exact ⟨rfl, hb⟩
  · go_enter Try.func23, Try.ntmps23
    go_wp2_with fail
    refine (ht _).mono ?_
    rintro e w1 ⟨rfl, hw1⟩
    subst hw1
    go_wp2
    go_ret
    exact ⟨rfl, hb⟩
end Go.Proofs.Ytoaekmighinmhaa

namespace Go.Proofs.Ytoaekmighinmhaa

theorem head_app {α : Type} {a : List α} (b : List α) (h : a ≠ []) : (a ++ b).head? = a.head? := by
  cases a with
  | nil => exact absurd rfl h
  | cons x a => rfl
theorem last_app {α : Type} (a : List α) {b : List α} (h : b ≠ []) : (a ++ b).getLast? = b.getLast? := by
  rw [List.getLast?_append, List.getLast?_eq_some_getLast h]
  rfl
theorem es_sub : ∀ (es : List En) (ks : List (List En)), es.Sublist (inter es ks)
  | [], ks => by simp
  | e :: es, [] => by unfold inter; exact List.Sublist.refl _
  | e :: es, k :: ks => by
    unfold inter
    exact ((es_sub es ks).cons_cons e).trans (List.sublist_append_right _ _)
theorem sort_sub {a b : List En} (h : SortE b) (hs : a.Sublist b) : SortE a := List.Pairwise.sublist hs h
theorem lft_some {i : Nat} {es : List En} {ks : List (List En)} {x : En} (hx : es[i]? = some x) : lftN (i + 1) es ks = inter (es.take i) (ks.take (i + 1)) ++ [x] := by rw [lft_succ, hx]; rfl
theorem rgt_some {i : Nat} {es : List En} {ks : List (List En)} {x : En} (hx : es[i]? = some x) : rgtN i es ks = x :: inter (es.drop (i + 1)) (ks.drop (i + 1)) := by unfold rgtN; rw [hx]
theorem rgt_none {i : Nat} {es : List En} {ks : List (List En)} (hx : es[i]? = none) : rgtN i es ks = [] := by unfold rgtN; rw [hx]
theorem rgt_head (i : Nat) (es : List En) (ks : List (List En)) : (rgtN i es ks).head? = es[i]? := by
  cases h : es[i]? with
  | none => rw [rgt_none h]; rfl
  | some x => rw [rgt_some h]; rfl
theorem lft_last {i : Nat} {es : List En} {ks : List (List En)} (hi : i < es.length) : (lftN (i + 1) es ks).getLast? = es[i]? := by
  have h := List.getElem?_eq_getElem hi
  rw [h, lft_some h, last_app _ (by simp)]
  rfl
theorem lft_lt {i : Nat} {es : List En} {ks : List (List En)} {e : En} (hi : i ≤ es.length) (hs : SortE (lftN i es ks)) (h : ∀ x, 0 < i → es[i - 1]? = some x → cmpE x e < 0) : ∀ a ∈ lftN i es ks, cmpE a e < 0 := by
  cases i with
  | zero => intro a ha; cases ha
  | succ i =>
    have hx := List.getElem?_eq_getElem (show i < es.length by omega)
    have h1 := h _ (by omega) (show es[i + 1 - 1]? = some es[i] from hx)
    rw [lft_some hx] at hs ⊢
    obtain ⟨_, _, h4⟩ := List.pairwise_append.1 hs
    intro a ha
    rcases List.mem_append.1 ha with ha | ha
    · exact ltE_trans (h4 a ha _ (by simp)) h1
    · rw [List.mem_singleton.1 ha]; exact h1
theorem lft_le {i : Nat} {es : List En} {ks : List (List En)} {e : En} (hi : i ≤ es.length) (hs : SortE (lftN i es ks)) (h : ∀ x, 0 < i → es[i - 1]? = some x → ¬ cmpE e x < 0) : ∀ a ∈ lftN i es ks, ¬ cmpE e a < 0 := by
  cases i with
  | zero => intro a ha; cases ha
  | succ i =>
    have hx := List.getElem?_eq_getElem (show i < es.length by omega)
    have h1 := h _ (by omega) (show es[i + 1 - 1]? = some es[i] from hx)
    rw [lft_some hx] at hs ⊢
    obtain ⟨_, _, h4⟩ := List.pairwise_append.1 hs
    intro a ha
    rcases List.mem_append.1 ha with ha | ha
    · exact fun hc => h1 (ltE_trans hc (h4 a ha _ (by simp)))
    · rw [List.mem_singleton.1 ha]; exact h1
theorem rgt_gt {i : Nat} {es : List En} {ks : List (List En)} {e : En} (hs : SortE (rgtN i es ks)) (h : ∀ x, es[i]? = some x → cmpE e x < 0) : ∀ c ∈ rgtN i es ks, cmpE e c < 0 := by
  cases hx : es[i]? with
  | none => rw [rgt_none hx]; intro c hc; cases hc
  | some x =>
    rw [rgt_some hx] at hs ⊢
    intro c hc
    rcases List.mem_cons.1 hc with rfl | hc
    · exact h _ hx
    · exact ltE_trans (h _ hx) ((List.pairwise_cons.1 hs).1 c hc)
theorem rgt_ge {i : Nat} {es : List En} {ks : List (List En)} {e : En} (hs : SortE (rgtN i es ks)) (h : ∀ x, es[i]? = some x → ¬ cmpE x e < 0) : ∀ c ∈ rgtN i es ks, ¬ cmpE c e < 0 := by
  cases hx : es[i]? with
  | none => rw [rgt_none hx]; intro c hc; cases hc
  | some x =>
    rw [rgt_some hx] at hs ⊢
    intro c hc
    rcases List.mem_cons.1 hc with rfl | hc
    · exact h _ hx
    · exact fun h2 => h _ hx (ltE_trans ((List.pairwise_cons.1 hs).1 c hc) h2)

/-- how many stand ahead of one, or are that one. -/
def upE (e : En) (l : List En) : Nat := if hasE e l then ahE e l + 1 else ahE e l
theorem up_le {e : En} {l : List En} (hs : SortE l) : upE e l ≤ l.length := by
  unfold upE
  split
  · rename_i h
    have := (List.getElem?_eq_some_iff.1 ((ah_find hs).2 (hasE_iff.1 h))).1
    omega
  · exact ah_le e l
theorem up_lt {e : En} {l : List En} (hs : SortE l) (j : Nat) (x : En) (hj : j < upE e l) (hx : l[j]? = some x) : ¬ cmpE e x < 0 := by
  unfold upE at hj
  split at hj
  · rename_i h
    rcases Nat.lt_or_ge j (ahE e l) with h1 | h1
    · exact ltE_asymm (ah_lt e l j x h1 hx)
    · have h2 := (ah_find hs).2 (hasE_iff.1 h)
      obtain rfl : j = ahE e l := by omega
      rw [h2] at hx
      cases hx
      exact ltE_irrefl
  · exact ltE_asymm (ah_lt e l j x hj hx)
theorem up_ge {e : En} {l : List En} (hs : SortE l) (j : Nat) (x : En) (hj : upE e l ≤ j) (hx : l[j]? = some x) : cmpE e x < 0 := by
  have h0 : ahE e l ≤ j := by unfold upE at hj; split at hj <;> omega
  have h1 := ah_ge hs j x h0 hx
  rcases ltE_total e x with h | h | h
  · exact h
  · exfalso
    have hm : e ∈ l := by rw [h]; exact List.mem_of_getElem? hx
    have h2 := (ah_find hs).2 hm
    unfold upE at hj
    rw [if_pos (hasE_iff.2 hm)] at hj
    have hl := (List.getElem?_eq_some_iff.1 hx)
    have hl2 := (List.getElem?_eq_some_iff.1 h2)
    have h3 := List.pairwise_iff_getElem.1 hs _ _ hl2.1 hl.1 (by omega)
    rw [hl.2, hl2.2, h] at h3
    exact ltE_irrefl h3
  · omega
theorem after_leaf {e : En} {l : List En} (hs : SortE l) : afterE e l = l[upE e l]? := by
  have h := after_mid (A := l.take (upE e l)) (k := []) (C := l.drop (upE e l)) (e := e) (fun a ha => by
    obtain ⟨j, hj⟩ := List.mem_iff_getElem?.1 ha
    rw [List.getElem?_take] at hj
    split at hj
    · exact up_lt hs j a (by assumption) hj
    · cases hj) (fun c hc => by
    obtain ⟨j, hj⟩ := List.mem_iff_getElem?.1 hc
    rw [List.getElem?_drop] at hj
    exact up_ge hs _ c (by omega) hj)
  rw [List.append_nil, List.take_append_drop] at h
  rw [h, List.head?_drop]
  simp [afterE]
theorem before_leaf {e : En} {l : List En} (hs : SortE l) : beforeE e l = if ahE e l = 0 then none else l[ahE e l - 1]? := by
  have h := before_mid (A := l.take (ahE e l)) (k := []) (C := l.drop (ahE e l)) (e := e) (fun a ha => by
    obtain ⟨j, hj⟩ := List.mem_iff_getElem?.1 ha
    rw [List.getElem?_take] at hj
    split at hj
    · exact ah_lt e l j a (by assumption) hj
    · cases hj) (fun c hc => by
    obtain ⟨j, hj⟩ := List.mem_iff_getElem?.1 hc
    rw [List.getElem?_drop] at hj
    have := ah_ge hs _ c (show ahE e l ≤ ahE e l + j by omega) hj
    omega)
  rw [List.append_nil, List.take_append_drop] at h
  rw [h]
  simp only [beforeE, Option.none_or]
  have hle := ah_le e l
  split
  · rename_i h0; rw [h0]; rfl
  · rw [List.getLast?_eq_getElem?, List.length_take, Nat.min_eq_left hle, List.getElem?_take, if_pos (by omega)]

section
variable {n i : Nat} {t k : Nd} {e : En}
theorem flat_kid (h : WfN (n + 1) t) (hk : t.kids[i]? = some k) : flatN (n + 1) t = lftN i t.es (t.kids.map (flatN n)) ++ flatN n k ++ rgtN i t.es (t.kids.map (flatN n)) :=
  inter_kid (by rw [List.length_map]; exact h.1) (by rw [List.getElem?_map, hk]; rfl)
theorem flat_es (hs : SortE (flatN n t)) : SortE t.es := by
  cases n with
  | zero => exact hs
  | succ n => exact sort_sub hs (es_sub _ _)
theorem flat_mem (h : e ∈ t.es) : e ∈ flatN n t := by
  cases n with
  | zero => exact h
  | succ n => exact (es_sub _ _).subset h
/-- an entry that is none of a node's own: all else stands beside the kid at its place. -/
theorem beside (h : WfN (n + 1) t) (hs : SortE (flatN (n + 1) t)) (hk : t.kids[ahE e t.es]? = some k) (he : hasE e t.es = false) :
    (∀ a ∈ lftN (ahE e t.es) t.es (t.kids.map (flatN n)), cmpE a e < 0) ∧ ∀ c ∈ rgtN (ahE e t.es) t.es (t.kids.map (flatN n)), cmpE e c < 0 := by
  have h1 := flat_kid h hk
  have hes := flat_es hs
  rw [h1] at hs
  obtain ⟨_, _, _, _, h5, h6⟩ := sort_mid hs
  have hu : upE e t.es = ahE e t.es := by unfold upE; rw [he]; rfl
  exact ⟨lft_lt (ah_le _ _) h5 fun x h0 hx => ah_lt e _ _ x (by omega) hx, rgt_gt h6 fun x hx => up_ge hes _ x (by omega) hx⟩
theorem has_desc (h : WfN (n + 1) t) (hs : SortE (flatN (n + 1) t)) (hk : t.kids[ahE e t.es]? = some k) (he : hasE e t.es = false) : hasE e (flatN (n + 1) t) = hasE e (flatN n k) := by
  obtain ⟨h1, h2⟩ := beside h hs hk he
  rw [Bool.eq_iff_iff, hasE_iff, hasE_iff, flat_kid h hk, mem_mid h1 h2]
theorem after_desc (h : WfN (n + 1) t) (hs : SortE (flatN (n + 1) t)) (hk : t.kids[upE e t.es]? = some k) : afterE e (flatN (n + 1) t) = (afterE e (flatN n k)).or t.es[upE e t.es]? := by
  have h1 := flat_kid h hk
  have hes := flat_es hs
  rw [h1] at hs
  obtain ⟨_, _, _, _, h5, h6⟩ := sort_mid hs
  rw [h1, after_mid (lft_le (up_le hes) h5 fun x h0 hx => up_lt hes _ x (by omega) hx) (rgt_gt h6 fun x hx => up_ge hes _ x (Nat.le_refl _) hx), rgt_head]
theorem before_desc (h : WfN (n + 1) t) (hs : SortE (flatN (n + 1) t)) (hk : t.kids[ahE e t.es]? = some k) : beforeE e (flatN (n + 1) t) = (beforeE e (flatN n k)).or (if ahE e t.es = 0 then none else t.es[ahE e t.es - 1]?) := by
  have h1 := flat_kid h hk
  have hes := flat_es hs
  rw [h1] at hs
  obtain ⟨_, _, _, _, h5, h6⟩ := sort_mid hs
  rw [h1, before_mid (lft_lt (ah_le _ _) h5 fun x h0 hx => ah_lt e _ _ x (by omega) hx) (rgt_ge h6 fun x hx => by have := ah_ge hes _ x (Nat.le_refl _) hx; omega)]
  congr 1
  split
  · rename_i h0; rw [h0]; rfl
  · rename_i h0
    have hle := ah_le e t.es
    obtain ⟨j, hj⟩ : ∃ j, ahE e t.es = j + 1 := ⟨ahE e t.es - 1, by omega⟩
    rw [hj, lft_last (by omega)]
    rfl
theorem flat_ne (h : WfN n t) (h1 : 1 ≤ t.es.length) : flatN n t ≠ [] := by
  intro hc
  have h2 : t.es.Sublist (flatN n t) := by
    cases n with
    | zero => exact List.Sublist.refl _
    | succ n => exact es_sub _ _
  rw [hc] at h2
  have := h2.length_le
  simp at this
  rw [this] at h1
  simp at h1
theorem first_desc (h : WfN (n + 1) t) (hk : t.kids[0]? = some k) (hn : flatN n k ≠ []) : (flatN (n + 1) t).head? = (flatN n k).head? := by
  rw [flat_kid h hk]
  show ([] ++ flatN n k ++ _).head? = _
  rw [List.nil_append, head_app _ hn]
theorem last_desc (h : WfN (n + 1) t) (hk : t.kids[t.es.length]? = some k) (hn : flatN n k ≠ []) : (flatN (n + 1) t).getLast? = (flatN n k).getLast? := by
  rw [flat_kid h hk, rgt_none (List.getElem?_eq_none (Nat.le_refl _)), List.append_nil, last_app _ hn]
end
end Go.Proofs.Ytoaekmighinmhaa

namespace Go.Proofs.Ytoaekmighinmhaa
open Go.RowKit Go.Sort

set_option maxRecDepth 100000 in
set_option maxHeartbeats 2000000 in
theorem has_any : ∀ (n : Nat) (t : Nd) (e : En) (w : World), Live n w t → WfN n t → t.es.length ≤ 4 → SortE (flatN n t) →
    Calls Try.prog 72 #[.pointer (some ⟨t.b, 0, none⟩), .agg #[.string e.1, .int .i64 e.2]] w fun r w' => r = .returned (.bool (hasE e (flatN n t))) ∧ Below w.heap.size w w' := by
  intro n
  induction n with
  | zero =>
    intro t e w h hw hl hs
    obtain ⟨ek, ei⟩ := e
    obtain ⟨W0, hW0, hwW, hs0, k0, k1⟩ := box_any w ek ei
    have hsh := h.sh.below hwW
    have hpl := place_any (ek, ei) W0 hsh hs (by omega)
    have hz : t.kids.length = 0 := by rw [h.2]; rfl
    have hlf := fun W (hW : Below W0.heap.size W0 W) => leaf_below W (hsh.below hW)
    rw [hz] at hlf
    show Calls _ _ _ _ fun r w' => r = .returned (.bool (hasE (ek, ei) t.es)) ∧ _
    generalize hasE (ek, ei) t.es = p at *
    generalize ahE (ek, ei) t.es = q at *
    clear h hsh hs hw hz
    go_enter Try.func72, Try.ntmps72
    go_wp2_with fail
    refine hpl.mono ?_
    rintro e w1 ⟨rfl, hb1⟩
    have hlf1 := fun (d : Nat) (os : Array Obj) => Calls.regrown_of (hlf (grow (redrawn w1 d) os) (hb1.trans ((below_regrown _ d os).mono hb1.size)))
    have hb := hwW.trans (hb1.mono hwW.size)
    clear hpl hlf hb1 hwW hs0 hW0
    cases p with
    | true =>
      go_wp2_with fail
      refine wp_region_quiet_below mixed (by kernel_rfl) ?_
      iterate 18 go_big_quiet_step (fail)
      refine wpQuiet_nil ?_
      rintro w' ⟨⟨dq, osq⟩, hw'⟩
      have hb' : Below w1.heap.size w1 w' := by rw [hw']; exact below_regrown _ dq osq
      clear hw'
      go_wp2
      go_ret
      exact ⟨rfl, hb.trans (hb'.mono hb.size)⟩
    | false =>
      go_wp2_with fail
      refine wp_region_quiet_below mixed (by kernel_rfl) ?_
      iterate 3 go_big_quiet_step (fail)
      go_big_quiet_step (exact hlf1 _ _)
      iterate 14 go_big_quiet_step (fail)
      refine wpQuiet_nil ?_
      rintro w' ⟨⟨dq, osq⟩, hw'⟩
      have hb' : Below w1.heap.size w1 w' := by rw [hw']; exact below_regrown _ dq osq
      clear hw'
      go_wp2
      go_ret
      exact ⟨rfl, hb.trans (hb'.mono hb.size)⟩
  | succ n ih =>
    intro t e w h hw hl hs
    obtain ⟨ek, ei⟩ := e
    obtain ⟨W0, hW0, hwW, hs0, k0, k1⟩ := box_any w ek ei
    have hL0 : Live (n + 1) W0 t := h.below hwW
    have hes := flat_es hs
    have hpl := place_any (ek, ei) W0 hL0.sh hes (by omega)
    cases hp : hasE (ek, ei) t.es with
    | true =>
      have hg : hasE (ek, ei) (flatN (n + 1) t) = true := hasE_iff.2 (flat_mem (hasE_iff.1 hp))
      rw [hg]
      rw [hp] at hpl
      generalize ahE (ek, ei) t.es = q at *
      clear h hs hw hL0 ih hes hg hp
      go_enter Try.func72, Try.ntmps72
      go_wp2_with fail
      refine hpl.mono ?_
      rintro e w1 ⟨rfl, hb1⟩
      have hb := hwW.trans (hb1.mono hwW.size)
      clear hpl hb1 hwW hs0 hW0
      go_wp2_with fail
      refine wp_region_quiet_below mixed (by kernel_rfl) ?_
      iterate 18 go_big_quiet_step (fail)
      refine wpQuiet_nil ?_
      rintro w' ⟨⟨dq, osq⟩, hw'⟩
      have hb' : Below w1.heap.size w1 w' := by rw [hw']; exact below_regrown _ dq osq
      clear hw'
      go_wp2
      go_ret
      exact ⟨rfl, hb.trans (hb'.mono hb.size)⟩
    | false =>
      have hle := ah_le (ek, ei) t.es
      obtain ⟨k, hk⟩ : ∃ k, t.kids[ahE (ek, ei) t.es]? = some k := ⟨_, List.getElem?_eq_getElem (by have := hw.1; omega)⟩
      have hkm := List.mem_of_getElem? hk
      have hkw := hw.2 k hkm
      have hks : SortE (flatN n k) := by rw [flat_kid hw hk] at hs; exact (sort_mid hs).1
      rw [has_desc hw hs hk hp]
      rw [hp] at hpl
      have hlt := (List.getElem?_eq_some_iff.1 hk).1
      have hnz : ¬ t.kids.length = 0 := by omega
      have hrec := fun W (hW : Below W0.heap.size W0 W) => ih k (ek, ei) W ((hL0.2.2 k hkm).below hW) hkw.1 (by omega) hks
      have hlf := fun W (hW : Below W0.heap.size W0 W) => leaf_below W (hL0.sh.below hW)
      rw [decide_eq_false hnz] at hlf
      obtain ⟨B, c, -, hc1, hc2, c1, ck, -⟩ := hL0.sh.kidv hk
      generalize ahE (ek, ei) t.es = q at *
      have zq : (q : Int) < (t.kids.length : Int) := by omega
      generalize t.kids.length = m at *
      generalize hasE (ek, ei) (flatN n k) = p at *
      clear h hs hw hL0 ih hes hp hk hkm hkw hks hnz
      go_enter Try.func72, Try.ntmps72
      go_wp2_with fail
      refine hpl.mono ?_
      rintro e w1 ⟨rfl, hb1⟩
      have hlf1 := fun (d : Nat) (os : Array Obj) => Calls.regrown_of (hlf (grow (redrawn w1 d) os) (hb1.trans ((below_regrown _ d os).mono hb1.size)))
      have hrec1 := fun (d : Nat) (os : Array Obj) => Calls.regrown_of (hrec (grow (redrawn w1 d) os) (hb1.trans ((below_regrown _ d os).mono hb1.size)))
      have G0 := cell_regrown ((hb1.cell (lt_of_cell c1)).trans c1)
      have G1 := cell_regrown ((hb1.cell (lt_of_cell ck)).trans ck)
      have G2 := cell_regrown ((hb1.cell (lt_of_cell k0)).trans k0)
      have G3 := cell_regrown ((hb1.cell (lt_of_cell k1)).trans k1)
      have hb := hwW.trans (hb1.mono hwW.size)
      clear hpl hlf hrec hb1 hwW hs0 hW0 c1 ck k0 k1
      go_wp2_with fail
      refine wp_region_quiet_below mixed (by kernel_rfl) ?_
      iterate 3 go_big_quiet_step (fail)
      go_big_quiet_step (exact hlf1 _ _)
      iterate 10 go_big_quiet_step (fail)
      go_big_quiet_step (exact hrec1 _ _)
      iterate 3 go_big_quiet_step (fail)
      refine wpQuiet_nil ?_
      rintro w' ⟨⟨dq, osq⟩, hw'⟩
      have hb' : Below w1.heap.size w1 w' := by rw [hw']; exact below_regrown _ dq osq
      clear hw' G0 G1 G2 G3 hlf1 hrec1
      go_wp2
      go_ret
      exact ⟨rfl, hb.trans (hb'.mono hb.size)⟩
end Go.Proofs.Ytoaekmighinmhaa

namespace Go.Proofs.Ytoaekmighinmhaa
open Go.RowKit Go.Sort

set_option maxRecDepth 100000 in
set_option maxHeartbeats 2000000 in
theorem last_any : ∀ (n : Nat) (t : Nd) (x : En) (w : World), Live n w t → WfN n t → 1 ≤ t.es.length → t.es.length ≤ 4 → (flatN n t).getLast? = some x →
    Calls Try.prog 70 #[.pointer (some ⟨t.b, 0, none⟩)] w fun r w' => r = .returned (.agg #[.string x.1, .int .i64 x.2]) ∧ Below w.heap.size w w' := by
  intro n
  induction n with
  | zero =>
    intro t x w h hw hl hl4 hx
    have hz : t.kids.length = 0 := by rw [h.2]; rfl
    have hlf := fun W (hW : Below w.heap.size w W) => leaf_any W (h.sh.below hW)
    rw [hz] at hlf
    obtain ⟨j, hj⟩ : ∃ j, t.es.length = j + 1 := ⟨t.es.length - 1, by omega⟩
    have hx0 : t.es[j]? = some x := by
      have e : t.es.getLast? = some x := hx
      rw [List.getLast?_eq_getElem?, hj] at e
      exact e
    obtain ⟨B, c, -, hc1, hc2, c0, ck, ci, -⟩ := h.sh.entryv hx0
    obtain ⟨xk, xi⟩ := x
    rw [hj] at c0 hc1 hl4
    have zq : wrap64 (j : Int) = (j : Int) := by unfold wrap64; omega
    clear hj
    have hbw := lt_of_cell c0
    have hBw := lt_of_cell ck
    clear h hw hx hx0
    go_enter Try.func70, Try.ntmps70
    go_wp2_with fail
    refine (hlf _ ((Below.refl _ _).alloc (Nat.le_refl _) _)).mono ?_
    rintro e w1 ⟨rfl, rfl⟩
    go_wp2
    refine bodyPost_ret (v := .agg #[.string xk, .int .i64 xi]) (by simp [results, Try.results70, go_sem]) rfl ⟨rfl, ?_⟩
    exact (Below.refl _ _).alloc (Nat.le_refl _) _
  | succ n ih =>
    intro t x w h hw hl hl4 hx
    obtain ⟨k, hk⟩ : ∃ k, t.kids[t.es.length]? = some k := ⟨_, List.getElem?_eq_getElem (by have := hw.1; omega)⟩
    have hkm := List.mem_of_getElem? hk
    have hkw := hw.2 k hkm
    have hkx : (flatN n k).getLast? = some x := by rw [← last_desc hw hk (flat_ne hkw.1 (by omega))]; exact hx
    have hnz : ¬ t.kids.length = 0 := by have := (List.getElem?_eq_some_iff.1 hk).1; omega
    have hlf := fun W (hW : Below w.heap.size w W) => leaf_any W (h.sh.below hW)
    rw [decide_eq_false hnz] at hlf
    have hrec := fun W (hW : Below w.heap.size w W) => ih k x W ((h.2.2 k hkm).below hW) hkw.1 (by omega) (by omega) hkx
    obtain ⟨B, c, -, hc1, hc2, c1, ck, -⟩ := h.1.kidv hk
    obtain ⟨xk, xi⟩ := x
    obtain ⟨sa, sc, -, -, -, -, c0, -, -⟩ := h.1.view
    have hkl := hw.1
    have zq : (t.es.length : Int) < (t.kids.length : Int) := by omega
    generalize t.kids.length = m at *
    generalize t.es.length = q at *
    have hbw := lt_of_cell c1
    have hBw := lt_of_cell ck
    clear h hw hx hkx hk hkm hkw ih hkl
    go_enter Try.func70, Try.ntmps70
    go_wp2_with fail
    refine (hlf _ ((Below.refl _ _).alloc (Nat.le_refl _) _)).mono ?_
    rintro e w1 ⟨rfl, rfl⟩
    go_wp2_with fail
    have r0 := heap_alloc_new w (.cells #[.string ⟨#[]⟩, .int .i64 0] 34)
    have hb0 : Below w.heap.size w (w.alloc (.cells #[.string ⟨#[]⟩, .int .i64 0] 34)) := (Below.refl _ _).alloc (Nat.le_refl _) _
    refine (hrec _ hb0).mono ?_
    rintro e w1 ⟨rfl, hb1⟩
    have r1 := (hb1.block w.heap.size (by simp)).trans r0
    have e0 : w1.cell? ⟨w.heap.size, 0, none⟩ = some (.string ⟨#[]⟩) := by simp [World.cell?, r1]
    have e1 : w1.cell? ⟨w.heap.size, 1, none⟩ = some (.int .i64 0) := by simp [World.cell?, r1]
    have hb := hb0.trans (hb1.mono hb0.size)
    have hsz := lt_of_heap r1
    have ef : ∀ j, w1.frozen? ⟨w.heap.size, j, none⟩ = false := fun j => by simp [World.frozen?, r1]
    clear hrec hb0 hb1 r0 r1
    go_wp2
    refine bodyPost_ret (v := .agg #[.string xk, .int .i64 xi]) (by simp [results, Try.results70, go_sem, e0, e1]) rfl ⟨rfl, ?_⟩
    exact (hb.setCell (Nat.le_refl _) _).setCell (Nat.le_refl _) _
end Go.Proofs.Ytoaekmighinmhaa
