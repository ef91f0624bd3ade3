/-
  Package fault's Places (and gather, forkAhead beneath it) by contracts: the places of an error, the outermost first. Conditions: at most 40 places.
-/
import Derived.Test.YtobdgdbdibnlgaaDoorNest
namespace Go.Proofs.YtobdgdbdibnlgaaDoor
open Go.RowKit Go.Extern.Stop Go.Stop Go.Extern

theorem run_neq_iface_ptr_same {P : Program} (w : World) {ti tp te : TypeId} {ms : Array (String × TypeId)} {i j : TypeInfo} (a : Addr)
    (hi : P.underlying ti = some (.interface ms)) (hp : P.underlying tp = some (.pointer te)) (hinfo : P.info? tp = some i) (hcomp : i.comparable = true) (hte : P.info? te = some j) :
    (binOp .neq ti (.iface tp (.pointer (some a))) (.iface tp (.pointer (some a)))).run P w = .ok (.bool false) w := by
  simp only [binOp]
  simp [Op.equal, Op.maxDepth, run_equalIn_iface_ptr_same w 9998 a hi hp hinfo hcomp hte]

set_option maxHeartbeats 1000000 in
theorem forkAhead_same (e : Addr) (w : World) : Calls Tryd.prog 29 #[.iface 39 (.pointer (some e)), .pointer (some e)] w fun ev w' => ev = .returned (.tuple #[.nilIface, .bool false]) ∧ w' = w := by
  obtain ⟨i, hi, hcmp⟩ := Option.map_eq_some_iff.1 Tryd.comp39
  obtain ⟨j, hj, hjs⟩ := Option.map_eq_some_iff.1 Tryd.size41
  have heq := run_neq_iface_ptr_same (P := Tryd.prog) w e Tryd.underlying25 Tryd.underlying39 hi hcmp hj
  go_enter Tryd.func29, Tryd.ntmps29
  go_wp2
  refine wp_loop_rounds 1 ?_
  rw [rounds_succ]
  go_wp2
  go_ret2
  exact ⟨rfl, rfl⟩

theorem Tryd.info9 : (Tryd.prog.info? 9).map (fun i => (i.zero, i.size, i.bytes)) = some (some (.string ⟨#[]⟩), 1, 16) := by kernel_rfl

theorem gather_none (w : World) : Calls Tryd.prog 19 #[.slice none 0 0, .nilIface] w fun e w' => e = .returned (.slice none 0 0) ∧ Below w.heap.size w w' := by
  go_enter Tryd.func19, Tryd.ntmps19
  go_wp2_with fail
  refine wp_loop_rounds 1 ?_
  rw [rounds_succ]
  go_wp2_with (go_at_call 18; refine (as_nil _ _).mono ?_; rintro e w' ⟨rfl, rfl⟩)
  go_ret
  exact ⟨rfl, (Below.refl _ _).alloc (Nat.le_refl _) _⟩

theorem Places_none (w : World) : Calls Tryd.prog 12 #[.nilIface] w fun e w' => e = .returned (.slice none 0 0) ∧ Below w.heap.size w w' := by
  go_enter Tryd.func12, Tryd.ntmps12
  go_wp2_with (go_at_call 19; refine (gather_none _).mono ?_; rintro e w' ⟨rfl, hB⟩)
  go_ret
  exact ⟨rfl, hB⟩

set_option maxHeartbeats 2000000 in
theorem gather_some (fin : Value) (hfin : Last fin) (ps : List ByteArray) (hps : ps.length ≤ 40) (v : Value) (w : World) (hg : Handle w) (hch : Chain w fin ps v) :
    Calls Tryd.prog 19 #[.slice none 0 0, v] w fun e w' => ∃ r, e = .returned r ∧ w'.ownsRow (w.heap.size + 1) 9 1 r ps.length (ps.map .string) ∧ Below w.heap.size w w' := by
  obtain ⟨i0, hi, hz0, hz1, hz2⟩ := info_parts Tryd.info9
  go_enter Tryd.func19, Tryd.ntmps19
  go_wp2_with fail
  go_loopg [0, 1] ps.length (fun k r e wr => Below w.heap.size w wr ∧ ∃ (ds qs : List ByteArray) (x : Value), ds ++ qs = ps ∧ qs.length = k ∧ Chain w fin qs e ∧ wr.cell? ⟨w.heap.size, 0, none⟩ = some x ∧ wr.frozen? ⟨w.heap.size, 0, none⟩ = false ∧ wr.ownsRow (w.heap.size + 1) 9 1 r ds.length (ds.map .string))
  case atStart => exact ⟨(Below.refl _ _).alloc (Nat.le_refl _) _, [], ps, .pointer none, rfl, rfl, hch, by simp, by simp, World.ownsRow_nil _ _ _ _⟩
  case round =>
    obtain ⟨hB, ds, qs, x, hds, hk, hq, ht, hf, hown⟩ := hrel
    have HK : Hid (qs.length = gk) := hk
    have HD : Hid (ds ++ qs = ps) := hds
    have hlen : ds.length + qs.length ≤ 40 := by rw [← List.length_append, hds]; exact hps
    clear hk hds hch
    cases qs with
    | nil =>
      obtain rfl : _ = fin := hq
      go_wp2_with fail
      refine (As_fault_last _ hfin _ _ (hg.below hB)).mono ?_
      rintro e w1 ⟨rfl, hB1⟩
      go_wp2
      go_ret
      have hd : ds = ps := by simpa using HD.out
      subst hd
      exact ⟨_, rfl, below_ownsRow hown hB1, hB.trans (hB1.mono hB.size)⟩
    | cons q qs =>
      obtain ⟨b, y, rfl, hcell, hq⟩ := hq
      have hlt : b < w.heap.size := by
        rcases Nat.lt_or_ge b w.heap.size with h' | h'
        · exact h'
        · rw [Array.getElem?_eq_none h'] at hcell; cases hcell
      go_wp2_with fail
      refine (As_fault_hit _ ⟨w.heap.size, 0, none⟩ x _ (hg.below hB) ht hf).mono ?_
      rintro e w' ⟨rfl, w1, hB1, rfl⟩
      have hc1 := set_cell (v := .pointer (some ⟨b, 0, none⟩)) hB1 ht
      have hf1 : (w1.setCell ⟨w.heap.size, 0, none⟩ (.pointer (some ⟨b, 0, none⟩))).frozen? ⟨w.heap.size, 0, none⟩ = false := by
        rw [World.frozen?_setCell, hB1.frozen (p := ⟨w.heap.size, 0, none⟩) (lt_of_cell ht)]; exact hf
      have hB2 : Below w.heap.size w (w1.setCell ⟨w.heap.size, 0, none⟩ (.pointer (some ⟨b, 0, none⟩))) := (hB.trans (hB1.mono hB.size)).setCell (Nat.le_refl _) _
      have hown2 : (w1.setCell ⟨w.heap.size, 0, none⟩ (.pointer (some ⟨b, 0, none⟩))).ownsRow (w.heap.size + 1) 9 1 _ ds.length (ds.map .string) := ownsRow_setCell_below (below_ownsRow hown hB1) (by simp) _
      have hsz : w.heap.size + 1 ≤ (w1.setCell ⟨w.heap.size, 0, none⟩ (.pointer (some ⟨b, 0, none⟩))).heap.size := lt_of_cell hc1
      clear hB1 ht hf hown
      generalize w1.setCell ⟨w.heap.size, 0, none⟩ (.pointer (some ⟨b, 0, none⟩)) = W2 at *
      have c0 : W2.cell? ⟨b, 0, none⟩ = some (.string q) := by rw [hB2.cell (p := ⟨b, 0, none⟩) hlt]; exact cell_of_heap hcell rfl
      have c1 : W2.cell? ⟨b, 1, none⟩ = some y := by rw [hB2.cell (p := ⟨b, 1, none⟩) hlt]; exact cell_of_heap hcell rfl
      go_wp2_with fail
      refine (forkAhead_same _ _).mono ?_
      rintro e w' ⟨rfl, rfl⟩
      go_wp2_with (at_builtin; refine wpList_append_own _ rfl _ _ 22 rfl (w.heap.size + 1) 9 i0 (.string ⟨#[]⟩) 1 16 Tryd.underlying22 hi hz0 hz1 hz2 rfl (by decide) _ _ _ rfl (hown2.alloc _) ⟨w'.heap.size, 0, none⟩ 1 1 [.string q] rfl rfl ?c1 ?c2 ?c3 ?c4 ?c5 ?_)
      case c1 =>
        intro j u hj
        match j, hj with
        | 0, hj => simp at hj; subst hj; simp [Addr.add]
      case c2 => intro u hu; simp at hu; subst hu; rfl
      case c3 => simp at hlen; unfold maxLen; omega
      case c4 => simp at hlen; omega
      case c5 => simp; omega
      · intro v' w2 hown3 hgrow _
        have hrow : ∀ k, Value.ownBlock u0 = some k → w.heap.size + 1 ≤ k := fun k hk => (hown2.lt k hk).1
        have hB3 : Below w.heap.size w w2 := (hB2.alloc hB2.size _).grown hgrow (by simp; omega) (fun k hk => by have := hrow k hk; omega)
        have hblk : w2.heap[w.heap.size]? = w'.heap[w.heap.size]? := by
          rw [hgrow.block w.heap.size (by simp; omega) (fun e => by have := hrow _ e.symm; omega)]
          exact Below.heap_alloc _ _ _ (by omega)
        have ht3 : w2.cell? ⟨w.heap.size, 0, none⟩ = some (.pointer (some ⟨b, 0, none⟩)) := by rw [World.cell?_of_block (w := w') (a := ⟨w.heap.size, 0, none⟩) hblk]; exact hc1
        have hf3 : w2.frozen? ⟨w.heap.size, 0, none⟩ = false := by rw [World.frozen?_of_block (w := w') (a := ⟨w.heap.size, 0, none⟩) hblk]; exact hf1
        have e1 : w2.cell? ⟨b, 1, none⟩ = some y := by rw [hB3.cell (p := ⟨b, 1, none⟩) hlt]; exact cell_of_heap hcell rfl
        have HO : Hid (w2.ownsRow (w.heap.size + 1) 9 1 v' (ds.length + 1) (ds.map .string ++ [.string q])) := hown3
        clear hown3 hown2 hgrow c0 c1 hc1 hf1 hblk hrow
        go_wp2
        go_roundg qs.length
        case measure => have := HK.out; simp at this; omega
        case rel => exact ⟨hB3, ds ++ [q], qs, _, by simpa using HD.out, rfl, hq, ht3, hf3, by simpa using HO.out⟩

theorem Places_some (fin : Value) (hfin : Last fin) (ps : List ByteArray) (hps : ps.length ≤ 40) (v : Value) (w : World) (hg : Handle w) (hch : Chain w fin ps v) :
    Calls Tryd.prog 12 #[v] w fun e w' => ∃ r, e = .returned r ∧ w'.ownsRow (w.heap.size + 1) 9 1 r ps.length (ps.map .string) ∧ Below w.heap.size w w' := by
  go_enter Tryd.func12, Tryd.ntmps12
  go_wp2_with (go_at_call 19; refine (gather_some fin hfin ps hps _ _ hg hch).mono ?_; rintro e w' ⟨r, rfl, hown, hB⟩)
  go_ret
  exact ⟨_, rfl, hown, hB⟩

theorem is_slice {w : World} {base : Nat} {e : TypeId} {size : Nat} {v : Value} {n : Nat} {xs : List Value} (h : w.ownsRow base e size v n xs) : ∃ g cap, v = .slice g n cap := by
  obtain ⟨_, h⟩ := h
  rcases h with ⟨rfl, rfl⟩ | ⟨g, cap, rest, rfl, _⟩
  · exact ⟨_, _, rfl⟩
  · exact ⟨_, _, rfl⟩
end Go.Proofs.YtobdgdbdibnlgaaDoor
