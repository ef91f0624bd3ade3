/-
  The law's Doc by its contract. No conditions beyond those stated.
  The law's at by its contract. Conditions: as stated (lists of at most ten values).
  The law's Find by its contract. Conditions: as stated (lists of at most ten values).
-/
import Derived.Test.YtfpkkobclkdniaaGreatDoorU12
import Derived.Test.YtfpkkobclkdniaaGreatDoorU11
namespace Go.Proofs.YtfpkkobclkdniaaGreatDoor
open Go.RowKit

def DocV (w w' : World) (x : V) (l f : Value) : Prop := OfV w w' x l f ∧ x.kind = 5

theorem run_append_zero {P : Program} {w : World} (t ty e : TypeId) (i : TypeInfo) (B : Nat) (a : Option Addr) (c : Nat) (ht : P.underlying t = some (.slice e)) (hi : P.info? e = some i) :
    (Builtin.append_ #[t, t] ty #[.slice (some ⟨B, 0, none⟩) 1 1, .slice a 0 c]).run P w = .ok (.slice (some ⟨B, 0, none⟩) 1 1) w := by
  cases a with
  | none => simp [Builtin.append_, run_underlying ht, sizeOf, typeInfo, hi, Builtin.lenOf, Builtin.firstCells, storeCells]
  | some ad => simp [Builtin.append_, run_underlying ht, sizeOf, typeInfo, hi, Builtin.lenOf, Builtin.firstCells, storeCells, loadCells, loadCellsFrom]

theorem wpList_append_zero {P : Program} {w : World} {ops : Array Oper} {rest : List Oper} {o : Oper} {a : Act} {Q : Exit → Act → World → Prop} (hgd : o.guard = none) (s x : Operand) (t : TypeId)
    (ho : o.op = .call { callee := .builtin .append, args := #[s, x], argTypes := #[t, t] }) (e : TypeId) (i : TypeInfo) (ht : P.underlying t = some (.slice e)) (hi : P.info? e = some i)
    (B : Nat) (a' : Option Addr) (c : Nat) (hs : a.eval s = .slice (some ⟨B, 0, none⟩) 1 1) (hx : a.eval x = .slice a' 0 c)
    (h : wpList P ops Q rest (a.put o.dst (.slice (some ⟨B, 0, none⟩) 1 1)) w) : wpList P ops Q (o :: rest) a w := by
  refine wpList_plain hgd fun K hK => ?_
  have hrun := run_append_zero (P := P) (w := w) t o.type e i B a' c ht hi
  unfold Oper.wp
  simp [execOp, ho, resolve, invoke, builtin, hs, hx, hrun, Result.andThen]
  exact hK _ _ h

theorem cell_of_block {W : World} {b j : Nat} {cs : Array Value} {t : TypeId} {v : Value} (h : W.heap[b]? = some (.cells cs t (0, 0))) (hj : cs[j]? = some v) : W.cell? ⟨b, j, none⟩ = some v := by
  simp only [World.cell?, h]
  exact hj
theorem infoU8 : (Tryz.prog.info? 5).map (fun i => (i.zero, i.size, i.bytes)) = some (some (.int .u8 0), 1, 1) := by kernel_rfl
set_option maxRecDepth 100000 in
theorem Made_doc (u : UInt8) (bs : List UInt8) (a : Option Addr) (cap : Nat) (w : World) (hb : BytesAt w (.slice a (bs.length + 1) cap) (u :: bs)) (hT : Tabs w) (hr : (u.toNat : Int) % 6 = 5) : Calls Tryz.prog 37 #[.slice a (bs.length + 1) cap, .int .i64 4] w
    fun e w' => ∃ x l f r, e = .returned (.tuple #[.agg #[.int .i64 x.kind, .int .i64 x.num, .string x.text, l, f], r]) ∧ (MadeV 3 w w' (.slice a (bs.length + 1) cap) (u :: bs) x l f r ∧ x.kind = 5) :=
  Made_obj 2 4 (by omega) (by omega) (Made_any 2 (by omega)) u bs a cap w hb hT hr

set_option maxRecDepth 100000 in
set_option maxHeartbeats 1000000 in
theorem Doc_nil (a : Option Addr) (cap : Nat) (w : World) (_hcap : cap ≤ 9223372036854775807) (hT : Tabs w) : Calls Tryz.prog 14 #[.slice a 0 cap] w
    fun e w' => ∃ x l f, e = .returned (.agg #[.int .i64 x.kind, .int .i64 x.num, .string x.text, l, f]) ∧ DocV w w' x l f := by
  obtain ⟨i0, hi, -⟩ := info_parts infoU8
  have hlo : (min 0 1 : Int) = 0 := by decide
  have hhi : (min 0 60 : Int) = 0 := by decide
  have hBB : ∀ o1 o2, Below w.heap.size w ((w.alloc o1).alloc o2) := fun o1 o2 => ((Below.refl _ _).alloc (Nat.le_refl _) _).alloc (by simp) _
  have hM : ∀ o, Calls Tryz.prog 37 #[.slice (some ⟨w.heap.size + 1, 0, none⟩) 1 1, .int .i64 4] ((w.alloc o).alloc (.cells #[.int .u8 5] 5)) _ := fun o => Made_doc 5 [] (some ⟨w.heap.size + 1, 0, none⟩) 1 _ ⟨_, _, rfl, Nat.le_refl _, by omega, fun _ => ⟨_, _, rfl, fun j v hj => by
    cases j with
    | zero => simp only [List.getElem?_cons_zero, Option.some.injEq] at hj; subst hj; exact cell_of_block (by have := heap_alloc_new (w.alloc o) (.cells #[.int .u8 5] 5); simp only [World.size_alloc] at this; exact this) rfl
    | succ j => simp at hj⟩⟩ (hT.below (hBB _ _)) (by decide)
  go_enter Tryz.func14, Tryz.ntmps14
  go_wp2_with (first | (at_builtin; refine wpList_append_zero rfl (.tmp 17) (.tmp 25) 24 rfl 5 i0 Tryz.underlying24 hi _ _ _ rfl rfl ?_))
  refine (hM _).mono ?_
  rintro e w1 ⟨x, l, f, r, rfl, ⟨hnx, hrx, -, hb1⟩, hk⟩
  obtain ⟨bl, dl, bf, df, rfl, rfl⟩ := hrx.slices
  have q1 := row_below hb1 ((Below.heap_alloc (w.alloc _) _ _ (by simp)).trans (heap_alloc_new w _))
  obtain ⟨o0, o1, o2, o3, o4, of⟩ := row5 q1
  have hz1 : w.heap.size < w1.heap.size := lt_of_heap q1
  have hB1 : Below w.heap.size w w1 := (hBB _ _).trans (hb1.mono (hBB _ _).size)
  have hle : w.heap.size + 1 ≤ ((w.alloc (.cells #[.int .i64 0, .int .i64 0, .string ⟨#[]⟩, .slice none 0 0, .slice none 0 0] 40)).alloc (.cells #[.int .u8 5] 5)).heap.size := by simp
  have S := (show Hid _ from And.intro hnx (And.intro hrx (And.intro hk hle)))
  clear hnx hrx hb1 q1 hk hle
  go_wp2
  refine bodyPost_ret (v := .agg #[.int .i64 x.kind, .int .i64 x.num, .string x.text, .slice bl x.list.length dl, .slice bf x.fields.length df]) (by simp [results, Tryz.results14, go_sem, o0, o1, o2, o3, o4, hz1]) rfl ⟨x, _, _, rfl, ⟨S.out.1, ?_, ?_⟩, S.out.2.2.1⟩
  · have hle := S.out.2.2.2
    refine S.out.2.1.move fun b hb hl => ⟨by omega, ?_⟩
    rw [Below.heap_alloc _ _ b (by simpa using hl)]
    exact set5W_ne w1 w.heap.size 0 1 2 3 4 _ _ _ _ _ (by omega)
  · exact (set5W_below hB1 (Nat.le_refl _) 0 1 2 3 4 _ _ _ _ _).alloc (by rw [set5W_size]; omega) _

theorem doc_byte (u : UInt8) : ((UInt8.ofNat (5 + 6 * (u.toNat % 16))).toNat : Int) = 5 + 6 * ((u.toNat : Int) % 16) := by
  have h : (UInt8.ofNat (5 + 6 * (u.toNat % 16))).toNat = 5 + 6 * (u.toNat % 16) := by simp; omega
  rw [h]; omega
theorem own_bytes {W : World} {base m : Nat} {v : Value} {k : Int} {K : UInt8} {bs : List UInt8} (hk : (K.toNat : Int) = k) (hm : m = bs.length) (h : W.ownsRow base 5 1 v (1 + m) ([.int .u8 k] ++ bs.map fun u => .int .u8 u.toNat)) :
    ∃ g cap, v = .slice (some ⟨g, 0, none⟩) (bs.length + 1) cap ∧ BytesAt W (.slice (some ⟨g, 0, none⟩) (bs.length + 1) cap) (K :: bs) := by
  obtain ⟨h1, h2⟩ := h
  subst hm
  subst hk
  rcases h2 with ⟨_, h2⟩ | ⟨g, cap, cur, rfl, _, hg, hn, hc, hs, ht⟩
  · omega
  · refine ⟨g, cap, by rw [Nat.add_comm], _, _, rfl, by simp; omega, by unfold maxLen at hc; omega, fun _ => ⟨_, _, rfl, fun j u hj => ?_⟩⟩
    refine cell_of_block (by rw [hg]) ?_
    have hj2 : ((K :: bs).map fun u : UInt8 => Value.int .u8 u.toNat)[j]? = some (.int .u8 u.toNat) := by rw [List.getElem?_map, hj]; rfl
    have hjl : j < (1 + bs.length) * 1 := by have := (List.getElem?_eq_some_iff.1 hj).1; simp at this; omega
    have e : cur.toList.take ((1 + bs.length) * 1) = (K :: bs).map fun u : UInt8 => Value.int .u8 u.toNat := by rw [ht]; rfl
    rw [← e, List.getElem?_take, if_pos hjl, Array.getElem?_toList] at hj2
    rw [Nat.zero_add]
    exact hj2

set_option maxRecDepth 100000 in
set_option maxHeartbeats 1000000 in
theorem Doc_one (u : UInt8) (b o cap : Nat) (w : World) (c0 : w.cell? ⟨b, o, none⟩ = some (.int .u8 u.toNat)) (h1 : 1 ≤ cap) (h2 : cap ≤ 9223372036854775807) (hT : Tabs w) : Calls Tryz.prog 14 #[.slice (some ⟨b, o, none⟩) 1 cap] w
    fun e w' => ∃ x l f, e = .returned (.agg #[.int .i64 x.kind, .int .i64 x.num, .string x.text, l, f]) ∧ DocV w w' x l f := by
  obtain ⟨i0, hi, -⟩ := info_parts infoU8
  have hlo : (min 1 1 : Int) = 1 := by decide
  have hhi : (min 1 60 : Int) = 1 := by decide
  have hlt := lt_of_cell c0
  have hu : u.toNat < 256 := u.toNat_lt
  have hBB : ∀ o1 o2, Below w.heap.size w ((w.alloc o1).alloc o2) := fun o1 o2 => ((Below.refl _ _).alloc (Nat.le_refl _) _).alloc (by simp) _
  have hM : ∀ o, Calls Tryz.prog 37 #[.slice (some ⟨w.heap.size + 1, 0, none⟩) 1 1, .int .i64 4] ((w.alloc o).alloc (.cells #[.int .u8 (5 + 6 * ((u.toNat : Int) % 16))] 5)) _ := fun o => Made_doc (UInt8.ofNat (5 + 6 * (u.toNat % 16))) [] (some ⟨w.heap.size + 1, 0, none⟩) 1 _ ⟨_, _, rfl, Nat.le_refl _, by omega, fun _ => ⟨_, _, rfl, fun j v hj => by
    cases j with
    | zero => simp only [List.getElem?_cons_zero, Option.some.injEq] at hj; subst hj; rw [doc_byte]; exact cell_of_block (by have := heap_alloc_new (w.alloc o) (.cells #[.int .u8 (5 + 6 * ((u.toNat : Int) % 16))] 5); simp only [World.size_alloc] at this; exact this) rfl
    | succ j => simp at hj⟩⟩ (hT.below (hBB _ _)) (by rw [doc_byte]; omega)
  obtain ⟨c, hc⟩ : ∃ c : Int, (u.toNat : Int) = c := ⟨_, rfl⟩
  rw [hc] at c0
  simp only [hc] at hM
  have c1 : 0 ≤ c := by omega
  have c2 : c ≤ 255 := by omega
  clear hc hu
  go_enter Tryz.func14, Tryz.ntmps14
  go_wp2_with (first | (at_builtin; refine wpList_append_zero rfl (.tmp 17) (.tmp 25) 24 rfl 5 i0 Tryz.underlying24 hi _ _ _ rfl rfl ?_))
  all_goals
    refine (hM _).mono ?_
    rintro e w1 ⟨x, l, f, r, rfl, ⟨hnx, hrx, -, hb1⟩, hk⟩
    obtain ⟨bl, dl, bf, df, rfl, rfl⟩ := hrx.slices
    have q1 := row_below hb1 ((Below.heap_alloc (w.alloc _) _ _ (by simp)).trans (heap_alloc_new w _))
    obtain ⟨o0, o1, o2, o3, o4, of⟩ := row5 q1
    have hz1 : w.heap.size < w1.heap.size := lt_of_heap q1
    have hB1 : Below w.heap.size w w1 := (hBB _ _).trans (hb1.mono (hBB _ _).size)
    have hle : w.heap.size + 1 ≤ ((w.alloc (.cells #[.int .i64 0, .int .i64 0, .string ⟨#[]⟩, .slice none 0 0, .slice none 0 0] 40)).alloc (.cells #[.int .u8 (5 + 6 * (c % 16))] 5)).heap.size := by simp
    have S := (show Hid _ from And.intro hnx (And.intro hrx (And.intro hk hle)))
    clear hnx hrx hb1 q1 hk hle
    go_wp2
    refine bodyPost_ret (v := .agg #[.int .i64 x.kind, .int .i64 x.num, .string x.text, .slice bl x.list.length dl, .slice bf x.fields.length df]) (by simp [results, Tryz.results14, go_sem, o0, o1, o2, o3, o4, hz1]) rfl ⟨x, _, _, rfl, ⟨S.out.1, ?_, ?_⟩, S.out.2.2.1⟩
    · have hle := S.out.2.2.2
      refine S.out.2.1.move fun b hb hl => ⟨by omega, ?_⟩
      rw [Below.heap_alloc _ _ b (by simpa using hl)]
      exact set5W_ne w1 w.heap.size 0 1 2 3 4 _ _ _ _ _ (by omega)
    · exact (set5W_below hB1 (Nat.le_refl _) 0 1 2 3 4 _ _ _ _ _).alloc (by rw [set5W_size]; omega) _

set_option maxRecDepth 100000 in
set_option maxHeartbeats 1000000 in
theorem Doc_two (u : UInt8) (t : List UInt8) (b o cap : Nat) (w : World) (c0 : w.cell? ⟨b, o, none⟩ = some (.int .u8 u.toNat)) (ht : ∀ (j : Nat) (v : UInt8), t[j]? = some v → w.cell? ⟨b, o + 1 + j, none⟩ = some (.int .u8 v.toNat)) (hne : t ≠ []) (h1 : t.length + 1 ≤ cap) (h2 : cap ≤ 9223372036854775807) (hT : Tabs w) : Calls Tryz.prog 14 #[.slice (some ⟨b, o, none⟩) (t.length + 1) cap] w
    fun e w' => ∃ x l f, e = .returned (.agg #[.int .i64 x.kind, .int .i64 x.num, .string x.text, l, f]) ∧ DocV w w' x l f := by
  obtain ⟨i0, hi, hz0, hz1, hz2⟩ := info_parts infoU8
  have hlt := lt_of_cell c0
  have hu : u.toNat < 256 := u.toNat_lt
  have htl : 0 < t.length := List.length_pos_iff.2 hne
  obtain ⟨bs, hbs⟩ : ∃ bs, bs = t.take 59 := ⟨_, rfl⟩
  have hbl : bs.length = min 59 t.length := by rw [hbs, List.length_take]
  obtain ⟨W, hW⟩ : ∃ W, W = (w.alloc (.cells #[.int .i64 0, .int .i64 0, .string ⟨#[]⟩, .slice none 0 0, .slice none 0 0] 40)).alloc (.cells #[.int .u8 (5 + 6 * ((u.toNat : Int) % 16))] 5) := ⟨_, rfl⟩
  have hBW : Below w.heap.size w W := by rw [hW]; exact ((Below.refl _ _).alloc (Nat.le_refl _) _).alloc (by simp) _
  have hsz : W.heap.size = w.heap.size + 1 + 1 := by rw [hW]; simp
  have hown : Hid (W.ownsRow (w.heap.size + 1) 5 1 (.slice (some ⟨w.heap.size + 1, 0, none⟩) 1 1) 1 [.int .u8 (5 + 6 * ((u.toNat : Int) % 16))]) := by
    have := World.ownsRow_lit (base := w.heap.size + 1) (e := 5) (size := 1) (w.alloc (.cells #[.int .i64 0, .int .i64 0, .string ⟨#[]⟩, .slice none 0 0, .slice none 0 0] 40)) #[.int .u8 (5 + 6 * ((u.toNat : Int) % 16))] 1 (by simp) (by decide) rfl
    simp only [World.size_alloc] at this
    rw [← hW] at this
    exact this
  have hq : W.heap[w.heap.size]? = some (.cells #[.int .i64 0, .int .i64 0, .string ⟨#[]⟩, .slice none 0 0, .slice none 0 0] 40) := by rw [hW]; exact (Below.heap_alloc (w.alloc _) _ _ (by simp)).trans (heap_alloc_new w _)
  have hnews : Hid (∀ (j : Nat) (v : Value), (bs.map fun u : UInt8 => Value.int .u8 u.toNat)[j]? = some v → W.cell? ((⟨b, o + 1, none⟩ : Addr).add j) = some v) := by
    intro j v hj
    rw [List.getElem?_map] at hj
    obtain ⟨y, hy, rfl⟩ := Option.map_eq_some_iff.1 hj
    rw [hbs, List.getElem?_take] at hy
    split at hy
    · have := ht j y hy
      rw [Addr.add_lit]
      exact (hBW.cell (lt_of_cell this)).trans this
    · cases hy
  have hone : Hid (∀ v ∈ (bs.map fun u : UInt8 => Value.int .u8 u.toNat), v.oneCell' = true) := by
    intro v hv
    obtain ⟨y, _, rfl⟩ := List.mem_map.1 hv
    rfl
  have hnl : ∀ M, M = bs.length + 1 → (bs.map fun u : UInt8 => Value.int .u8 u.toNat).length = (M - 1) * 1 := fun M hM => by simp; omega
  have hM : ∀ w3 v', w3.ownsRow (w.heap.size + 1) 5 1 v' (1 + bs.length) ([.int .u8 (5 + 6 * ((u.toNat : Int) % 16))] ++ bs.map fun u => .int .u8 u.toNat) → Below w.heap.size w w3 → ∃ g cap, v' = .slice (some ⟨g, 0, none⟩) (bs.length + 1) cap ∧ Calls Tryz.prog 37 #[.slice (some ⟨g, 0, none⟩) (bs.length + 1) cap, .int .i64 4] w3
      fun e w' => ∃ x l f r, e = .returned (.tuple #[.agg #[.int .i64 x.kind, .int .i64 x.num, .string x.text, l, f], r]) ∧ (MadeV 3 w3 w' (.slice (some ⟨g, 0, none⟩) (bs.length + 1) cap) (UInt8.ofNat (5 + 6 * (u.toNat % 16)) :: bs) x l f r ∧ x.kind = 5) := by
    intro w3 v' h3 hB3
    obtain ⟨g, cap, rfl, hbt⟩ := own_bytes (doc_byte u) rfl h3
    exact ⟨g, cap, rfl, Made_doc _ _ _ _ _ hbt (hT.below hB3) (by rw [doc_byte]; omega)⟩
  obtain ⟨c, hc⟩ : ∃ c : Int, (u.toNat : Int) = c := ⟨_, rfl⟩
  rw [hc] at c0 hown hW
  simp only [hc] at hM
  have c1 : 0 ≤ c := by omega
  have c2 : c ≤ 255 := by omega
  obtain ⟨L, hL⟩ : ∃ L, L = t.length + 1 := ⟨_, rfl⟩
  obtain ⟨M, hMb⟩ : ∃ M, M = bs.length + 1 := ⟨_, rfl⟩
  have l1 : (0 : Int) < L := by omega
  have hlo : min (L : Int) 1 = 1 := by omega
  have hhi : min (L : Int) 60 = (M : Int) := by omega
  have l2 : (1 : Int) ≤ M := by omega
  have l3 : (M : Int) ≤ cap := by omega
  have l4 : cap ≠ 1 := by omega
  have HM := (show Hid _ from hM)
  have hnl' := (show Hid _ from hnl M hMb)
  have hbd : Hid (M - 1 = bs.length ∧ bs.length ≤ 59) := ⟨by omega, by omega⟩
  have X := (show Hid _ from And.intro hBW (And.intro hsz hq))
  rw [← hL]
  clear hL hbl h1 h2 ht hc hu htl hbs hM hnl hBW hsz hq hMb
  go_enter Tryz.func14, Tryz.ntmps14
  go_wp2_with (first | (at_builtin; rw [← hW]; refine wpList_append_own _ rfl (.tmp 17) (.tmp 25) 24 rfl (w.heap.size + 1) 5 i0 _ 1 1 Tryz.underlying24 hi hz0 hz1 hz2 rfl (by decide) (.slice (some ⟨w.heap.size + 1, 0, none⟩) 1 1) 1 _ rfl hown.out ⟨b, o + 1, none⟩ (M - 1) (cap - 1) _ rfl hnl'.out hnews.out hone.out (by have := hbd.out; unfold maxLen; omega) (by have := hbd.out; omega) (by have := X.out.2.1; omega) ?_; intro v' w3 h3 hg3 _; rw [hbd.out.1] at h3; have hB3 : Below w.heap.size w w3 := X.out.1.grown hg3 X.out.1.size (fun k e => by simp [Value.ownBlock] at e; omega); obtain ⟨g, cap', rfl, hcall⟩ := HM.out w3 v' h3 hB3; have hq3 := (hg3.block w.heap.size (by have := X.out.2.1; omega) (by simp [Value.ownBlock])).trans X.out.2.2; have hz3 : w.heap.size + 1 ≤ w3.heap.size := (by have := X.out.2.1; have := hg3.size; omega); have Y := (show Hid _ from And.intro hB3 (And.intro hq3 hz3)); clear h3 hg3 hB3 hq3 hz3))
  refine hcall.mono ?_
  rintro e w1 ⟨x, l, f, r, rfl, ⟨hnx, hrx, -, hb1⟩, hk⟩
  obtain ⟨bl, dl, bf, df, rfl, rfl⟩ := hrx.slices
  have q1 := row_below hb1 Y.out.2.1
  obtain ⟨o0, o1, o2, o3, o4, of⟩ := row5 q1
  have hz1 : w.heap.size < w1.heap.size := lt_of_heap q1
  have hB1 : Below w.heap.size w w1 := Y.out.1.trans (hb1.mono Y.out.1.size)
  have hle : w.heap.size + 1 ≤ w3.heap.size := Y.out.2.2
  have S := (show Hid _ from And.intro hnx (And.intro hrx (And.intro hk hle)))
  clear hnx hrx hb1 q1 hk hle
  go_wp2
  refine bodyPost_ret (v := .agg #[.int .i64 x.kind, .int .i64 x.num, .string x.text, .slice bl x.list.length dl, .slice bf x.fields.length df]) (by simp [results, Tryz.results14, go_sem, o0, o1, o2, o3, o4, hz1]) rfl ⟨x, _, _, rfl, ⟨S.out.1, ?_, ?_⟩, S.out.2.2.1⟩
  · have hle := S.out.2.2.2
    refine S.out.2.1.move fun b hb hl => ⟨by omega, ?_⟩
    rw [Below.heap_alloc _ _ b (by simpa using hl)]
    exact set5W_ne w1 w.heap.size 0 1 2 3 4 _ _ _ _ _ (by omega)
  · exact (set5W_below hB1 (Nat.le_refl _) 0 1 2 3 4 _ _ _ _ _).alloc (by rw [set5W_size]; omega) _

theorem Doc_any (s : Value) (bs : List UInt8) (w : World) (hb : BytesAt w s bs) (hT : Tabs w) : Calls Tryz.prog 14 #[s] w
    fun e w' => ∃ x l f, e = .returned (.agg #[.int .i64 x.kind, .int .i64 x.num, .string x.text, l, f]) ∧ DocV w w' x l f := by
  obtain ⟨a, cap, rfl, h1, h2, h3⟩ := hb
  cases bs with
  | nil => exact Doc_nil a cap w h2 hT
  | cons u t =>
    obtain ⟨b, o, rfl, hc⟩ := h3 (by simp)
    have c0 := hc 0 u rfl
    by_cases ht : t = []
    · subst ht
      exact Doc_one u b o cap w c0 h1 h2 hT
    · exact Doc_two u t b o cap w c0 (fun j v hj => by have := hc (j + 1) v hj; rwa [show o + (j + 1) = o + 1 + j by omega] at this) ht h1 h2 hT
end Go.Proofs.YtfpkkobclkdniaaGreatDoor

namespace Go.Proofs.YtfpkkobclkdniaaGreatDoor
open Go.RowKit

theorem digs_small : ∀ i : Fin 10, Lib.decDigits i.val = [UInt8.ofNat (48 + i.val)] := by
  intro i
  rw [Lib.decDigits, dif_pos i.isLt]
theorem itoa_small (j : Nat) (h : j < 10) : Lib.itoa (j : Int) = [UInt8.ofNat (48 + j)] := by
  unfold Lib.itoa
  rw [if_neg (by omega)]
  exact digs_small ⟨j, h⟩
theorem place_digit : ∀ i : Fin 10, Lib.atoiAll [UInt8.ofNat (48 + i.val)] = .ok (i.val : Int) := by decide +kernel
/-- a digit is the place that it tells. -/
theorem dig_place (j : Nat) (h : j < 10) (part : ByteArray) : part.data.toList = [UInt8.ofNat (48 + j)] ↔ placeOf part = some j := by
  constructor
  · intro e
    unfold placeOf
    rw [e, place_digit ⟨j, h⟩]
    show (if 0 ≤ (j : Int) ∧ Lib.itoa (j : Int) = _ then _ else _) = _
    rw [if_pos ⟨by omega, itoa_small j h⟩]
    rfl
  · intro e
    unfold placeOf at e
    split at e
    · rename_i k _
      split at e
      · rename_i hk
        simp only [Option.some.injEq] at e
        rw [← hk.2, show k = (j : Int) by omega]
        exact itoa_small j h
      · cases e
    · cases e
def ten : ByteArray := ⟨#[48, 49, 50, 51, 52, 53, 54, 55, 56, 57]⟩
theorem ten_digit : ∀ i : Fin 10, ten.extract i.val (i.val + 1) = ⟨#[UInt8.ofNat (48 + i.val)]⟩ := by decide +kernel
theorem slice_dig (j : Nat) (h : j < 10) (W : World) : (Instr.slice 9 (.string ⟨#[48, 49, 50, 51, 52, 53, 54, 55, 56, 57]⟩) (some (.int .i64 (j : Int))) (some (.int .i64 ((j : Int) + 1))) none).run Tryz.prog W = .ok (.string ⟨#[UInt8.ofNat (48 + j)]⟩) W := by
  have e := ten_digit ⟨j, h⟩
  have hz : (((⟨#[48, 49, 50, 51, 52, 53, 54, 55, 56, 57]⟩ : ByteArray).size : Nat) : Int) = 10 := rfl
  rw [run_slice_string (P := Tryz.prog) W 9 _ .i64 .i64 _ _ Tryz.underlying9 (by omega) (by omega) (by rw [hz]; omega)]
  have e1 : ((j : Int)).toNat = j := by omega
  have e2 : ((j : Int) + 1).toNat = j + 1 := by omega
  rw [e1, e2]
  exact congrArg (fun b => Result.ok (Value.string b) W) e
theorem eq_dig (j : Nat) (part : ByteArray) : (part.toList == (⟨#[UInt8.ofNat (48 + j)]⟩ : ByteArray).toList) = decide (part.data.toList = [UInt8.ofNat (48 + j)]) := by
  rw [ByteArray.toList_eq, ByteArray.toList_eq, Bool.eq_iff_iff, beq_iff_eq, decide_eq_true_iff]

/-- what at tells. -/
def GotAns (w0 w w' : World) (r : Option V) (e : Ending) : Prop :=
  ∃ l' f' m, e = .returned (.tuple #[.agg #[.int .i64 (r.getD zeroV).kind, .int .i64 (r.getD zeroV).num, .string (r.getD zeroV).text, l', f'], .bool r.isSome]) ∧ Lies m w0 (r.getD zeroV) l' f' ∧ Below w.heap.size w w'

set_option maxRecDepth 100000 in
set_option maxHeartbeats 4000000 in
theorem at6_any (n : Nat) (v : V) (l f : Value) (part : ByteArray) (w0 w : World) (hB0 : Below w0.heap.size w0 w) (hL : Lies n w0 v l f) (h10 : v.kind = 4 → v.list.length ≤ 10) :
    Calls Tryz.prog 61 #[.agg #[.int .i64 v.kind, .int .i64 v.num, .string v.text, l, f], .string part] w fun e w' => GotAns w0 w w' (atP v part) e := by
  obtain ⟨⟨es, e1, e2, e3⟩, ⟨fs, f1, f2, f3⟩⟩ := Rep.up hL
  have hel : es.length = v.list.length := by rw [← e1, List.length_map]
  have hfl : fs.length = v.fields.length := by rw [← f1, List.length_map]
  rw [hel] at e2
  rw [hfl] at f2
  obtain ⟨a1, c1, a3, c3, rfl, rfl⟩ := Rep.slices hL
  obtain ⟨O1, hO1⟩ : ∃ O, Obj.cells #[.int .i64 v.kind, .int .i64 v.num, .string v.text, .slice a1 v.list.length c1, .slice a3 v.fields.length c3] 40 = O := ⟨_, rfl⟩
  obtain ⟨O2, hO2⟩ : ∃ O, Obj.cells #[.int .i64 0, .int .i64 0, .string ⟨#[]⟩, .slice none 0 0, .slice none 0 0] 40 = O := ⟨_, rfl⟩
  obtain ⟨W2, hW2⟩ : ∃ W, (w.alloc O1).alloc O2 = W := ⟨_, rfl⟩
  have hB2 : Below w.heap.size w W2 := by rw [← hW2]; exact ((Below.refl _ _).alloc (Nat.le_refl _) _).alloc (by simp) _
  have r0 : W2.heap[w.heap.size]? = some O1 := by rw [← hW2]; exact heap_alloc2_old
  have r1 : W2.heap[w.heap.size + 1]? = some O2 := by rw [← hW2]; exact heap_alloc2_new
  have hsz2 : W2.heap.size = w.heap.size + 2 := by rw [← hW2]; simp
  rw [← hO1] at r0
  rw [← hO2] at r1
  obtain ⟨x0, x1, x2, x3, x4, xf⟩ := row5 r0
  obtain ⟨y0, y1, y2, y3, y4, yf⟩ := row5 r1
  rw [← hO1, ← hO2] at hW2
  have nel := e2.2.1
  have nfl := f2.2.1
  have HH := (show Hid _ from And.intro hL (And.intro e1 (And.intro e2 (And.intro e3 (And.intro f1 (And.intro f2 (And.intro f3 (And.intro hB2 (And.intro r0 r1)))))))))
  clear hO1 hO2 hL e1 e2 e3 f1 f2 f3 hB2 r0 r1 O1 O2
  by_cases h5 : v.kind = 5
  · have hatH := (show Hid _ from at5 h5 part)
    rw [h5] at x0 hW2 ⊢
    go_enter Tryz.func61, Tryz.ntmps61
    go_wp2
    go_loopg [7, 16] v.fields.length (fun gg _ i wr => ∃ k : Nat, k ≤ v.fields.length ∧ v.fields.length - k ≤ gg ∧ i = .int .i64 k ∧ Aside (Below W2.heap.size W2 wr ∧ ∀ j q, j < k → v.fields[j]? = some q → isName part q = false))
    case atStart => exact ⟨0, Nat.zero_le _, by omega, rfl, Below.refl _ _, fun j _ hj => absurd hj (Nat.not_lt_zero _)⟩
    case round =>
      obtain ⟨k, hk, hgg, rfl, A⟩ := hrel
      by_cases hlt : k < v.fields.length
      · obtain ⟨hL, e1, e2, e3, f1, f2, f3, hB2, r0, r1⟩ := HH.out
        obtain ⟨hBr, hno⟩ := A.out
        have hBw := hB2.trans (hBr.mono hB2.size)
        obtain ⟨C, c', e0, -, -, hc1, hc2, -⟩ := f2.cells (by omega)
        simp only [Value.slice.injEq] at e0
        obtain ⟨rfl, -, rfl⟩ := e0
        obtain ⟨⟨xn, xv, xl, xfv⟩, hx⟩ : ∃ x, fs[k]? = some x := ⟨_, List.getElem?_eq_getElem (by omega)⟩
        obtain ⟨b0, b1, b2, b3, b4, b5⟩ := (f2.move (fun b _ hl => ⟨trivial, (hB0.trans (hBw.mono hB0.size)).block b hl⟩) : RowAt (fun _ => True) wr _ _ _ _ _).fl hx
        have hxp : v.fields[k]? = some (xn, xv) := by rw [← f1, List.getElem?_map, hx]; rfl
        have hlx : Lies n w0 xv xl xfv := f3 _ (List.mem_of_getElem? hx)
        simp only at b0 b1 b2 b3 b4 b5
        obtain ⟨al, cl, af, cf, rfl, rfl⟩ := hlx.slices
        obtain ⟨W3, hW3⟩ : ∃ W, wr.alloc (.cells #[.string xn, .int .i64 xv.kind, .int .i64 xv.num, .string xv.text, .slice al xv.list.length cl, .slice af xv.fields.length cf] 72) = W := ⟨_, rfl⟩
        have hB3 : Below wr.heap.size wr W3 := by rw [← hW3]; exact (Below.refl _ _).alloc (Nat.le_refl _) _
        have hBw3 : Below w.heap.size w W3 := hBw.trans (hB3.mono hBw.size)
        have hBr3 : Below W2.heap.size W2 W3 := hBr.trans (hB3.mono hBr.size)
        have u1 := (hBr3.block _ (lt_of_heap r1)).trans r1
        obtain ⟨z0, z1, z2, z3, z4, zf⟩ := row5 u1
        have u2 : W3.heap[wr.heap.size]? = some (.cells #[.string xn, .int .i64 xv.kind, .int .i64 xv.num, .string xv.text, .slice al xv.list.length cl, .slice af xv.fields.length cf] 72) := by rw [← hW3]; exact heap_alloc_new wr _
        obtain ⟨t0, t1, t2, t3, t4, t5, tf⟩ := row6 u2
        have zk : (k : Int) < (v.fields.length : Int) := by omega
        have heq := beq_cmpT xn part
        have T := (show Hid _ from And.intro hlx (And.intro hBw3 (And.intro hxp hBr3)))
        clear hL e1 e2 e3 f1 f2 f3 hB2 r0 r1 hBr hBw hx hlx u1 hno hxp u2 hB3 hBw3 hBr3
        by_cases hc : cmpT xn part = 0
        · rw [decide_eq_true hc] at heq
          go_wp2
          refine bodyPost_ret (v := .tuple #[.agg #[.int .i64 xv.kind, .int .i64 xv.num, .string xv.text, .slice al xv.list.length cl, .slice af xv.fields.length cf], .bool true]) (by simp [results, Tryz.results61, go_sem, z0, z1, z2, z3, z4]) rfl ?_
          obtain ⟨hlx, hBw3, hxp, hBr3⟩ := T.out
          have hg : atP v part = some xv := by
            rw [hatH.out]
            rcases where_name part v.fields with ⟨g1, g2⟩ | ⟨j', q', y', g1, g2, g3, _⟩
            · have := whereI_hit (isName part) k v.fields _ hxp (decide_eq_true hc) A.out.2
              rw [g1] at this; omega
            · have := whereI_hit (isName part) k v.fields _ hxp (decide_eq_true hc) A.out.2
              obtain rfl : j' = k := by rw [g1] at this; omega
              rw [hxp] at g2
              cases g2
              exact g3
          rw [hg]
          have hfin := set5W_below hBw3 (Nat.le_succ _) 0 1 2 3 4 (.int .i64 xv.kind) (.int .i64 xv.num) (.string xv.text) (.slice al xv.list.length cl) (.slice af xv.fields.length cf)
          exact ⟨_, _, n, rfl, hlx, hfin⟩
        · rw [decide_eq_false hc] at heq
          go_wp2
          go_roundg (v.fields.length - (k + 1))
          case measure => omega
          case rel =>
            obtain ⟨hlx, hBw3, hxp, hBr3⟩ := T.out
            refine ⟨k + 1, by omega, by omega, by go_num, (show Aside _ from ⟨hBr3, fun j q hj hq => ?_⟩)⟩
            by_cases e : j = k
            · subst e
              rw [hxp] at hq
              cases hq
              exact decide_eq_false hc
            · exact A.out.2 j q (by omega) hq
      · have zk : ¬ (k : Int) < (v.fields.length : Int) := by omega
        obtain ⟨hL, e1, e2, e3, f1, f2, f3, hB2, r0, r1⟩ := HH.out
        obtain ⟨hBr, hno⟩ := A.out
        have hBw := hB2.trans (hBr.mono hB2.size)
        have u1 := (hBr.block _ (lt_of_heap r1)).trans r1
        obtain ⟨z0, z1, z2, z3, z4, zf⟩ := row5 u1
        have u0 := (hBr.block _ (lt_of_heap r0)).trans r0
        rw [h5] at u0
        obtain ⟨t0, t1, t2, t3, t4, tf⟩ := row5 u0
        have hg : atP v part = none := by
          rw [hatH.out]
          rcases where_name part v.fields with ⟨g1, g2⟩ | ⟨j', q', y', g1, g2, g3, _⟩
          · exact g2
          · have h0 := whereI_miss (isName part) v.fields fun y hy => by
              obtain ⟨j, hj⟩ := List.mem_iff_getElem?.1 hy
              exact hno j y (by have := (List.getElem?_eq_some_iff.1 hj).1; omega) hj
            rw [g1] at h0; omega
        have T := (show Hid _ from And.intro hBw hg)
        clear hL e1 e2 e3 f1 f2 f3 hB2 r0 r1 hBr hBw u1 u0 hno hg
        go_wp2
        refine bodyPost_ret (v := .tuple #[.agg #[.int .i64 0, .int .i64 0, .string ⟨#[]⟩, .slice none 0 0, .slice none 0 0], .bool false]) (by simp [results, Tryz.results61, go_sem, z0, z1, z2, z3, z4]) rfl ?_
        rw [T.out.2]
        exact ⟨_, _, 0, rfl, ⟨rfl, rfl, rfl, rfl⟩, set5W_below T.out.1 (Nat.le_succ _) 0 1 2 3 4 _ _ _ _ _⟩
  by_cases h4 : v.kind = 4
  · have hatH := (show Hid _ from at4 h4 part)
    have hl10 := h10 h4
    rw [h4] at x0 hW2 ⊢
    go_enter Tryz.func61, Tryz.ntmps61
    go_wp2
    go_loopg [8, 9, 33] v.list.length (fun gg _ _ i wr => ∃ k : Nat, k ≤ v.list.length ∧ v.list.length - k ≤ gg ∧ i = .int .i64 k ∧ Aside (Below W2.heap.size W2 wr ∧ ∀ j, j < k → ¬ placeOf part = some j))
    case atStart => exact ⟨0, Nat.zero_le _, by omega, rfl, Below.refl _ _, fun j hj => absurd hj (Nat.not_lt_zero _)⟩
    case round =>
      obtain ⟨k, hk, hgg, rfl, A⟩ := hrel
      by_cases hlt : k < v.list.length
      · obtain ⟨hL, e1, e2, e3, f1, f2, f3, hB2, r0, r1⟩ := HH.out
        obtain ⟨hBr, hno⟩ := A.out
        have hBw := hB2.trans (hBr.mono hB2.size)
        obtain ⟨C, c', e0, -, -, hc1, hc2, -⟩ := e2.cells (by omega)
        simp only [Value.slice.injEq] at e0
        obtain ⟨rfl, -, rfl⟩ := e0
        obtain ⟨⟨xv, xl, xfv⟩, hx⟩ : ∃ x, es[k]? = some x := ⟨_, List.getElem?_eq_getElem (by omega)⟩
        obtain ⟨b0, b1, b2, b3, b4⟩ := (e2.move (fun b _ hl => ⟨trivial, (hB0.trans (hBw.mono hB0.size)).block b hl⟩) : RowAt (fun _ => True) wr _ _ _ _ _).el hx
        have hxp : v.list[k]? = some xv := by rw [← e1, List.getElem?_map, hx]; rfl
        have hlx : Lies n w0 xv xl xfv := e3 _ (List.mem_of_getElem? hx)
        simp only at b0 b1 b2 b3 b4
        obtain ⟨al, cl, af, cf, rfl, rfl⟩ := hlx.slices
        obtain ⟨W3, hW3⟩ : ∃ W, wr.alloc (.cells #[.int .i64 xv.kind, .int .i64 xv.num, .string xv.text, .slice al xv.list.length cl, .slice af xv.fields.length cf] 40) = W := ⟨_, rfl⟩
        have hB3 : Below wr.heap.size wr W3 := by rw [← hW3]; exact (Below.refl _ _).alloc (Nat.le_refl _) _
        have hBw3 : Below w.heap.size w W3 := hBw.trans (hB3.mono hBw.size)
        have hBr3 : Below W2.heap.size W2 W3 := hBr.trans (hB3.mono hBr.size)
        have u1 := (hBr3.block _ (lt_of_heap r1)).trans r1
        obtain ⟨z0, z1, z2, z3, z4, zf⟩ := row5 u1
        have u2 : W3.heap[wr.heap.size]? = some (.cells #[.int .i64 xv.kind, .int .i64 xv.num, .string xv.text, .slice al xv.list.length cl, .slice af xv.fields.length cf] 40) := by rw [← hW3]; exact heap_alloc_new wr _
        obtain ⟨t0, t1, t2, t3, t4, tf⟩ := row5 u2
        have zk : (k : Int) < (v.list.length : Int) := by omega
        have zk10 : (k : Int) < 10 := by omega
        have zk0 : (0 : Int) ≤ (k : Int) := by omega
        have hsl := slice_dig k (by omega)
        have heq := eq_dig k part
        have hdp := dig_place k (by omega) part
        have T := (show Hid _ from And.intro hlx (And.intro hBw3 (And.intro hxp hBr3)))
        generalize (⟨#[UInt8.ofNat (48 + k)]⟩ : ByteArray) = E at heq hsl
        clear hL e1 e2 e3 f1 f2 f3 hB2 r0 r1 hBr hBw hx hlx u1 hno hxp u2 hB3 hBw3 hBr3
        by_cases hc : placeOf part = some k
        · rw [decide_eq_true (hdp.2 hc)] at heq
          clear hdp
          go_wp2
          refine bodyPost_ret (v := .tuple #[.agg #[.int .i64 xv.kind, .int .i64 xv.num, .string xv.text, .slice al xv.list.length cl, .slice af xv.fields.length cf], .bool true]) (by simp [results, Tryz.results61, go_sem, z0, z1, z2, z3, z4]) rfl ?_
          obtain ⟨hlx, hBw3, hxp, hBr3⟩ := T.out
          have hg : atP v part = some xv := by rw [hatH.out, hc, Option.bind_some, hxp]
          rw [hg]
          have hfin := set5W_below hBw3 (Nat.le_succ _) 0 1 2 3 4 (.int .i64 xv.kind) (.int .i64 xv.num) (.string xv.text) (.slice al xv.list.length cl) (.slice af xv.fields.length cf)
          exact ⟨_, _, n, rfl, hlx, hfin⟩
        · rw [decide_eq_false fun h => hc (hdp.1 h)] at heq
          clear hdp
          go_wp2
          go_roundg (v.list.length - (k + 1))
          case measure => omega
          case rel =>
            obtain ⟨hlx, hBw3, hxp, hBr3⟩ := T.out
            refine ⟨k + 1, by omega, by omega, by go_num, (show Aside _ from ⟨hBr3, fun j hj => ?_⟩)⟩
            by_cases e : j = k
            · subst e; exact hc
            · exact A.out.2 j (by omega)
      · have zk : ¬ (k : Int) < (v.list.length : Int) := by omega
        obtain ⟨hL, e1, e2, e3, f1, f2, f3, hB2, r0, r1⟩ := HH.out
        obtain ⟨hBr, hno⟩ := A.out
        have hBw := hB2.trans (hBr.mono hB2.size)
        have u1 := (hBr.block _ (lt_of_heap r1)).trans r1
        obtain ⟨z0, z1, z2, z3, z4, zf⟩ := row5 u1
        have hg : atP v part = none := by
          rw [hatH.out]
          rcases hp : placeOf part with _ | i
          · rfl
          · rw [Option.bind_some]
            refine List.getElem?_eq_none ?_
            rcases Nat.lt_or_ge i v.list.length with h | h
            · exact absurd hp (hno i (by omega))
            · exact h
        have T := (show Hid _ from And.intro hBw hg)
        clear hL e1 e2 e3 f1 f2 f3 hB2 r0 r1 hBr hBw u1 hno hg
        go_wp2
        refine bodyPost_ret (v := .tuple #[.agg #[.int .i64 0, .int .i64 0, .string ⟨#[]⟩, .slice none 0 0, .slice none 0 0], .bool false]) (by simp [results, Tryz.results61, go_sem, z0, z1, z2, z3, z4]) rfl ?_
        rw [T.out.2]
        exact ⟨_, _, 0, rfl, ⟨rfl, rfl, rfl, rfl⟩, set5W_below T.out.1 (Nat.le_succ _) 0 1 2 3 4 _ _ _ _ _⟩
  · have hatH := (show Hid _ from at_none h5 h4 part)
    have e5 : (v.kind == 5) = false := by simpa using h5
    have e4 : (v.kind == 4) = false := by simpa using h4
    go_enter Tryz.func61, Tryz.ntmps61
    go_wp2
    refine bodyPost_ret (v := .tuple #[.agg #[.int .i64 0, .int .i64 0, .string ⟨#[]⟩, .slice none 0 0, .slice none 0 0], .bool false]) (by simp [results, Tryz.results61, go_sem, y0, y1, y2, y3, y4]) rfl ?_
    obtain ⟨hL, e1, e2, e3, f1, f2, f3, hB2, r0, r1⟩ := HH.out
    rw [hatH.out]
    exact ⟨_, _, 0, rfl, ⟨rfl, rfl, rfl, rfl⟩, set5W_below hB2 (Nat.le_succ _) 0 1 2 3 4 _ _ _ _ _⟩
end Go.Proofs.YtfpkkobclkdniaaGreatDoor

namespace Go.Proofs.YtfpkkobclkdniaaGreatDoor
open Go.RowKit

/-- lists have at most ten values, so deep. -/
def Ten : Nat → V → Prop
  | 0, _ => True
  | n + 1, v => v.list.length ≤ 10 ∧ (∀ x ∈ v.list, Ten n x) ∧ ∀ p ∈ v.fields, Ten n p.2
theorem ten_at {n : Nat} {v x : V} {p : ByteArray} (h : Ten (n + 1) v) (ha : atP v p = some x) : Ten n x := by
  unfold atP at ha
  split at ha
  · obtain ⟨q, hq, e, _⟩ := getF_mem ha
    rw [← e]; exact h.2.2 q hq
  · split at ha
    · obtain ⟨i, _, hi⟩ := Option.bind_eq_some_iff.1 ha
      exact h.2.1 x (List.mem_of_getElem? hi)
    · cases ha

theorem box_set {W : World} {B t : Nat} {b0 b1 b2 b3 b4 : Value} (h : W.heap[B]? = some (.cells #[b0, b1, b2, b3, b4] t (0, 0))) (a0 a1 a2 a3 a4 : Value) : (set5W W B 0 1 2 3 4 a0 a1 a2 a3 a4).heap[B]? = some (.cells #[a0, a1, a2, a3, a4] t (0, 0)) :=
  set5 h (i := 0) (by simp) a0 a1 a2 a3 a4

set_option maxRecDepth 100000 in
set_option maxHeartbeats 4000000 in
theorem LFind_any (n : Nat) (ps : List ByteArray) (s : Value) (v : V) (l f : Value) (w : World) (hs : StrsAt w s ps) (hL : Lies n w v l f) (hT : Ten ps.length v) :
    Calls Tryz.prog 38 #[.agg #[.int .i64 v.kind, .int .i64 v.num, .string v.text, l, f], s] w fun e w' => GotAns w w w' (findP v ps) e := by
  obtain ⟨a1, c1, a3, c3, rfl, rfl⟩ := Rep.slices hL
  obtain ⟨a, cap, rfl, hc1, hc2, hcells⟩ := hs
  obtain ⟨W2, hW2⟩ : ∃ W, (w.alloc (.cells #[.int .i64 v.kind, .int .i64 v.num, .string v.text, .slice a1 v.list.length c1, .slice a3 v.fields.length c3] 40)).alloc (.cells #[.int .i64 0, .int .i64 0, .string ⟨#[]⟩, .slice none 0 0, .slice none 0 0] 40) = W := ⟨_, rfl⟩
  have hB2 : Below w.heap.size w W2 := by rw [← hW2]; exact ((Below.refl _ _).alloc (Nat.le_refl _) _).alloc (by simp) _
  have r0 : W2.heap[w.heap.size]? = some (.cells #[.int .i64 v.kind, .int .i64 v.num, .string v.text, .slice a1 v.list.length c1, .slice a3 v.fields.length c3] 40) := by rw [← hW2]; exact heap_alloc2_old
  have r1 : W2.heap[w.heap.size + 1]? = some (.cells #[.int .i64 0, .int .i64 0, .string ⟨#[]⟩, .slice none 0 0, .slice none 0 0] 40) := by rw [← hW2]; exact heap_alloc2_new
  have HH := (show Hid _ from And.intro hL (And.intro hT (And.intro hcells (And.intro hB2 (And.intro r0 r1)))))
  clear hL hT hB2 r0 r1 hcells
  go_enter Tryz.func38, Tryz.ntmps38
  go_wp2
  go_loopg [7, 8, 9, 12] ps.length (fun gg _ _ _ i wr => ∃ (k m : Nat) (u : V) (al cl af cf : _), k ≤ ps.length ∧ ps.length - k ≤ gg ∧ i = .int .i64 k ∧ Aside (Below w.heap.size w wr ∧ Lies m w u (.slice al u.list.length cl) (.slice af u.fields.length cf) ∧ Ten (ps.length - k) u ∧ findP v ps = findP u (ps.drop k) ∧
    wr.heap[w.heap.size]? = some (.cells #[.int .i64 u.kind, .int .i64 u.num, .string u.text, .slice al u.list.length cl, .slice af u.fields.length cf] 40 (0, 0)) ∧ wr.heap[w.heap.size + 1]? = some (.cells #[.int .i64 0, .int .i64 0, .string ⟨#[]⟩, .slice none 0 0, .slice none 0 0] 40 (0, 0))))
  case atStart =>
    obtain ⟨hL, hT, hcells, hB2, r0, r1⟩ := HH.out
    exact ⟨0, n, v, _, _, _, _, Nat.zero_le _, by omega, rfl, hB2, hL, hT, rfl, r0, r1⟩
  case round =>
    obtain ⟨k, m, u, al, cl, af, cf, hk, hgg, rfl, A⟩ := hrel
    obtain ⟨hB, hLu, hTu, hF, q0, q1⟩ := A.out
    obtain ⟨x0, x1, x2, x3, x4, xf⟩ := row5 q0
    obtain ⟨y0, y1, y2, y3, y4, yf⟩ := row5 q1
    by_cases hlt : k < ps.length
    · obtain ⟨hL, hT, hcells, hB2, r0, r1⟩ := HH.out
      obtain ⟨p, hpk⟩ : ∃ p, ps[k]? = some p := ⟨_, List.getElem?_eq_getElem hlt⟩
      have hdrop : ps.drop k = p :: ps.drop (k + 1) := by
        rw [List.drop_eq_getElem_cons hlt, ← (List.getElem?_eq_some_iff.1 hpk).2]
      obtain ⟨ab, ao, rfl, hcell⟩ := hcells (fun e => by rw [e] at hlt; simp at hlt)
      have c0 := hcell k p hpk
      have c0' : wr.cell? ⟨ab, ao + k, none⟩ = some (.string p) := (hB.cell (lt_of_cell c0)).trans c0
      have zk : (k : Int) < (ps.length : Int) := by omega
      rw [show ps.length - k = (ps.length - (k + 1)) + 1 by omega] at hTu
      have hcall := at6_any m u _ _ p w wr hB hLu fun _ => hTu.1
      rw [hdrop] at hF
      have hlt0 := lt_of_heap q0
      have hlt1 := lt_of_heap q1
      have T := (show Hid _ from And.intro hTu hF)
      clear hL hT hcells hB2 r0 r1 hcell c0 hB hLu hTu hF q0 q1
      rcases hat : atP u p with _ | y
      · rw [hat] at hcall
        have hcall' : Calls Tryz.prog 61 #[.agg #[.int .i64 u.kind, .int .i64 u.num, .string u.text, .slice al u.list.length cl, .slice af u.fields.length cf], .string p] wr fun e w' => ∃ l' f' m', e = .returned (.tuple #[.agg #[.int .i64 0, .int .i64 0, .string ⟨#[]⟩, l', f'], .bool false]) ∧ Lies m' w zeroV l' f' ∧ Below wr.heap.size wr w' := hcall
        have hatH := (show Hid _ from hat)
        clear hat hcall
        go_wp2_with fail
        refine hcall'.mono ?_
        rintro e w3 ⟨l', f', m', rfl, hLx, hb3⟩
        obtain ⟨hB, hLu, -, -, q0, q1⟩ := A.out
        obtain ⟨z1, d1, z3, d3, e1, e2⟩ := Rep.slices hLx
        have e1' : l' = .slice z1 0 d1 := e1
        have e2' : f' = .slice z3 0 d3 := e2
        subst e1' e2'
        obtain ⟨W4, hW4⟩ : ∃ W, w3.alloc (.cells #[.int .i64 0, .int .i64 0, .string ⟨#[]⟩, .slice z1 0 d1, .slice z3 0 d3] 40) = W := ⟨_, rfl⟩
        have hB4 : Below wr.heap.size wr W4 := by rw [← hW4]; exact hb3.alloc hb3.size _
        have q14 := (hB4.block _ (lt_of_heap q1)).trans q1
        obtain ⟨t0, t1, t2, t3, t4, tf⟩ := row5 q14
        have hBw4 := hB.trans (hB4.mono hB.size)
        have U := (show Hid _ from hBw4)
        clear hB hLu q0 q1 hLx e1 e2 hB4 q14 hBw4 hb3 hcall' x0 x1 x2 x3 x4 xf y0 y1 y2 y3 y4 yf
        go_wp2
        refine bodyPost_ret (v := .tuple #[.agg #[.int .i64 0, .int .i64 0, .string ⟨#[]⟩, .slice none 0 0, .slice none 0 0], .bool false]) (by simp [results, Tryz.results38, go_sem, t0, t1, t2, t3, t4]) rfl ?_
        rw [T.out.2, find_cons_none hatH.out]
        exact ⟨_, _, 0, rfl, ⟨rfl, rfl, rfl, rfl⟩, set5W_below U.out (Nat.le_succ _) 0 1 2 3 4 _ _ _ _ _⟩
      · rw [hat] at hcall
        have hcall' : Calls Tryz.prog 61 #[.agg #[.int .i64 u.kind, .int .i64 u.num, .string u.text, .slice al u.list.length cl, .slice af u.fields.length cf], .string p] wr fun e w' => ∃ l' f' m', e = .returned (.tuple #[.agg #[.int .i64 y.kind, .int .i64 y.num, .string y.text, l', f'], .bool true]) ∧ Lies m' w y l' f' ∧ Below wr.heap.size wr w' := hcall
        have hatH := (show Hid _ from hat)
        clear hat hcall
        go_wp2_with fail
        refine hcall'.mono ?_
        rintro e w3 ⟨l', f', m', rfl, hLx, hb3⟩
        obtain ⟨hB, hLu, -, -, q0, q1⟩ := A.out
        obtain ⟨z1, d1, z3, d3, rfl, rfl⟩ := Rep.slices hLx
        obtain ⟨W4, hW4⟩ : ∃ W, w3.alloc (.cells #[.int .i64 y.kind, .int .i64 y.num, .string y.text, .slice z1 y.list.length d1, .slice z3 y.fields.length d3] 40) = W := ⟨_, rfl⟩
        have hB4 : Below wr.heap.size wr W4 := by rw [← hW4]; exact hb3.alloc hb3.size _
        have q04 := (hB4.block _ (lt_of_heap q0)).trans q0
        have q14 := (hB4.block _ (lt_of_heap q1)).trans q1
        have qn : W4.heap[w3.heap.size]? = some (.cells #[.int .i64 y.kind, .int .i64 y.num, .string y.text, .slice z1 y.list.length d1, .slice z3 y.fields.length d3] 40) := by rw [← hW4]; exact heap_alloc_new w3 _
        obtain ⟨t0, t1, t2, t3, t4, tf⟩ := row5 q04
        obtain ⟨k0, k1, k2, k3, k4, kf⟩ := row5 qn
        have hBw4 := hB.trans (hB4.mono hB.size)
        have U := (show Hid _ from And.intro hBw4 (And.intro q04 (And.intro q14 hLx)))
        clear hB hLu q0 q1 hLx hB4 q04 q14 qn hBw4 hb3 hcall' x0 x1 x2 x3 x4 xf y0 y1 y2 y3 y4 yf
        go_wp2
        go_roundg (ps.length - (k + 1))
        case measure => omega
        case rel =>
          obtain ⟨hBw4, q04, q14, hLx⟩ := U.out
          refine ⟨k + 1, m', y, z1, d1, z3, d3, by omega, by omega, by go_num, (show Aside _ from ⟨?_, hLx, ten_at T.out.1 hatH.out, T.out.2.trans (find_cons_some hatH.out), box_set q04 _ _ _ _ _, (set5W_ne _ _ _ _ _ _ _ _ _ _ _ _ (by omega)).trans q14⟩)⟩
          exact set5W_below hBw4 (Nat.le_refl _) 0 1 2 3 4 _ _ _ _ _
    · have zk : ¬ (k : Int) < (ps.length : Int) := by omega
      have hd : ps.drop k = [] := List.drop_of_length_le (by omega)
      rw [hd] at hF
      have T := (show Hid _ from And.intro hB (And.intro hLu hF))
      have hlt0 := lt_of_heap q0
      have hlt1 := lt_of_heap q1
      clear hB hLu hF hTu q0 q1
      go_wp2
      refine bodyPost_ret (v := .tuple #[.agg #[.int .i64 u.kind, .int .i64 u.num, .string u.text, .slice al u.list.length cl, .slice af u.fields.length cf], .bool true]) (by simp [results, Tryz.results38, go_sem, y0, y1, y2, y3, y4]) rfl ?_
      rw [T.out.2.2]
      exact ⟨_, _, m, rfl, T.out.2.1, set5W_below T.out.1 (Nat.le_succ _) 0 1 2 3 4 _ _ _ _ _⟩
end Go.Proofs.YtfpkkobclkdniaaGreatDoor
