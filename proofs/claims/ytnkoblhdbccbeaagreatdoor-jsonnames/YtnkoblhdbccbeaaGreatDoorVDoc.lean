/-
  The law's Doc by its contract. No conditions beyond those stated.
-/
import Derived.Test.YtnkoblhdbccbeaaGreatDoorU18
namespace Go.Proofs.YtnkoblhdbccbeaaGreatDoor
open Go.RowKit

def DocV (w w' : World) (x : V) (l f : Value) : Prop := OfV w w' x l f ∧ x.kind = 5

theorem run_append_zero {P : Program} {w : World} (t ty e : TypeId) (i : TypeInfo) (B : Nat) (a : Option Addr) (c : Nat) (ht : P.underlying t = some (.slice e)) (hi : P.info? e = some i) :
    (Builtin.append_ #[t, t] ty #[.slice (some ⟨B, 0, none⟩) 1 1, .slice a 0 c]).run P w = .ok (.slice (some ⟨B, 0, none⟩) 1 1) w := by
  cases a with
  | none => simp [Builtin.append_, run_underlying ht, sizeOf, typeInfo, hi, Builtin.lenOf, Builtin.firstCells, storeCells]
  | some ad => simp [Builtin.append_, run_underlying ht, sizeOf, typeInfo, hi, Builtin.lenOf, Builtin.firstCells, storeCells, loadCells, loadCellsFrom]

theorem wpList_append_zero {P : Program} {w : World} {ops : Array Oper} {rest : List Oper} {o : Oper} {a : Act} {Q : Exit → Act → World → Prop} (hgd : o.guard = none) (s x : Operand) (t : TypeId)
    (ho : o.op = .call { callee := .builtin .append, args := #[s, x], argTypes := #[t, t] }) (e : TypeId) (i : TypeInfo) (ht : P.underlying t = some (.slice e)) (hi : P.info? e = some i)
    (B : Nat) (a' : Option Addr) (c : Nat) (hs : a.eval s = .slice (some ⟨B, 0, none⟩) 1 1) (hx : a.eval x = .slice a' 0 c)
    (h : wpList P ops Q rest (a.put o.dst (.slice (some ⟨B, 0, none⟩) 1 1)) w) : wpList P ops Q (o :: rest) a w := by
  refine wpList_plain hgd fun K hK => ?_
  have hrun := run_append_zero (P := P) (w := w) t o.type e i B a' c ht hi
  unfold Oper.wp
  simp [execOp, ho, resolve, invoke, builtin, hs, hx, hrun, Result.andThen]
  exact hK _ _ h

theorem cell_of_block {W : World} {b j : Nat} {cs : Array Value} {t : TypeId} {v : Value} (h : W.heap[b]? = some (.cells cs t (0, 0))) (hj : cs[j]? = some v) : W.cell? ⟨b, j, none⟩ = some v := by
  simp only [World.cell?, h]
  exact hj
theorem infoU8 : (Tryz.prog.info? 5).map (fun i => (i.zero, i.size, i.bytes)) = some (some (.int .u8 0), 1, 1) := by kernel_rfl
set_option maxRecDepth 100000 in
theorem Made_doc (u : UInt8) (bs : List UInt8) (a : Option Addr) (cap : Nat) (w : World) (hb : BytesAt w (.slice a (bs.length + 1) cap) (u :: bs)) (hT : Tabs w) (hr : (u.toNat : Int) % 6 = 5) : Calls Tryz.prog 25 #[.slice a (bs.length + 1) cap, .int .i64 4] w
    fun e w' => ∃ x l f r, e = .returned (.tuple #[.agg #[.int .i64 x.kind, .int .i64 x.num, .string x.text, l, f], r]) ∧ (MadeV 3 w w' (.slice a (bs.length + 1) cap) (u :: bs) x l f r ∧ x.kind = 5) :=
  Made_obj 2 4 (by omega) (by omega) (Made_any 2 (by omega)) u bs a cap w hb hT hr

set_option maxRecDepth 100000 in
set_option maxHeartbeats 1000000 in
theorem Doc_nil (a : Option Addr) (cap : Nat) (w : World) (_hcap : cap ≤ 9223372036854775807) (hT : Tabs w) : Calls Tryz.prog 22 #[.slice a 0 cap] w
    fun e w' => ∃ x l f, e = .returned (.agg #[.int .i64 x.kind, .int .i64 x.num, .string x.text, l, f]) ∧ DocV w w' x l f := by
  obtain ⟨i0, hi, -⟩ := info_parts infoU8
  have hlo : (min 0 1 : Int) = 0 := by decide
  have hhi : (min 0 60 : Int) = 0 := by decide
  have hBB : ∀ o1 o2, Below w.heap.size w ((w.alloc o1).alloc o2) := fun o1 o2 => ((Below.refl _ _).alloc (Nat.le_refl _) _).alloc (by simp) _
  have hM : ∀ o, Calls Tryz.prog 25 #[.slice (some ⟨w.heap.size + 1, 0, none⟩) 1 1, .int .i64 4] ((w.alloc o).alloc (.cells #[.int .u8 5] 5)) _ := fun o => Made_doc 5 [] (some ⟨w.heap.size + 1, 0, none⟩) 1 _ ⟨_, _, rfl, Nat.le_refl _, by omega, fun _ => ⟨_, _, rfl, fun j v hj => by
    cases j with
    | zero => simp only [List.getElem?_cons_zero, Option.some.injEq] at hj; subst hj; exact cell_of_block (by have := heap_alloc_new (w.alloc o) (.cells #[.int .u8 5] 5); simp only [World.size_alloc] at this; exact this) rfl
    | succ j => simp at hj⟩⟩ (hT.below (hBB _ _)) (by decide)
  go_enter Tryz.func22, Tryz.ntmps22
  go_wp2_with (first | (at_builtin; refine wpList_append_zero rfl (.tmp 17) (.tmp 25) 22 rfl 5 i0 Tryz.underlying22 hi _ _ _ rfl rfl ?_))
  refine (hM _).mono ?_
  rintro e w1 ⟨x, l, f, r, rfl, ⟨hnx, hrx, -, hb1⟩, hk⟩
  obtain ⟨bl, dl, bf, df, rfl, rfl⟩ := hrx.slices
  have q1 := row_below hb1 ((Below.heap_alloc (w.alloc _) _ _ (by simp)).trans (heap_alloc_new w _))
  obtain ⟨o0, o1, o2, o3, o4, of⟩ := row5 q1
  have hz1 : w.heap.size < w1.heap.size := lt_of_heap q1
  have hB1 : Below w.heap.size w w1 := (hBB _ _).trans (hb1.mono (hBB _ _).size)
  have hle : w.heap.size + 1 ≤ ((w.alloc (.cells #[.int .i64 0, .int .i64 0, .string ⟨#[]⟩, .slice none 0 0, .slice none 0 0] 31)).alloc (.cells #[.int .u8 5] 5)).heap.size := by simp
  have S := (show Hid _ from And.intro hnx (And.intro hrx (And.intro hk hle)))
  clear hnx hrx hb1 q1 hk hle
  go_wp2
  refine bodyPost_ret (v := .agg #[.int .i64 x.kind, .int .i64 x.num, .string x.text, .slice bl x.list.length dl, .slice bf x.fields.length df]) (by simp [results, Tryz.results22, go_sem, o0, o1, o2, o3, o4, hz1]) rfl ⟨x, _, _, rfl, ⟨S.out.1, ?_, ?_⟩, S.out.2.2.1⟩
  · have hle := S.out.2.2.2
    refine S.out.2.1.move fun b hb hl => ⟨by omega, ?_⟩
    rw [Below.heap_alloc _ _ b (by simpa using hl)]
    exact set5W_ne w1 w.heap.size 0 1 2 3 4 _ _ _ _ _ (by omega)
  · exact (set5W_below hB1 (Nat.le_refl _) 0 1 2 3 4 _ _ _ _ _).alloc (by rw [set5W_size]; omega) _

theorem doc_byte (u : UInt8) : ((UInt8.ofNat (5 + 6 * (u.toNat % 16))).toNat : Int) = 5 + 6 * ((u.toNat : Int) % 16) := by
  have h : (UInt8.ofNat (5 + 6 * (u.toNat % 16))).toNat = 5 + 6 * (u.toNat % 16) := by simp; omega
  rw [h]; omega
theorem own_bytes {W : World} {base m : Nat} {v : Value} {k : Int} {K : UInt8} {bs : List UInt8} (hk : (K.toNat : Int) = k) (hm : m = bs.length) (h : W.ownsRow base 5 1 v (1 + m) ([.int .u8 k] ++ bs.map fun u => .int .u8 u.toNat)) :
    ∃ g cap, v = .slice (some ⟨g, 0, none⟩) (bs.length + 1) cap ∧ BytesAt W (.slice (some ⟨g, 0, none⟩) (bs.length + 1) cap) (K :: bs) := by
  obtain ⟨h1, h2⟩ := h
  subst hm
  subst hk
  rcases h2 with ⟨_, h2⟩ | ⟨g, cap, cur, rfl, _, hg, hn, hc, hs, ht⟩
  · omega
  · refine ⟨g, cap, by rw [Nat.add_comm], _, _, rfl, by simp; omega, by unfold maxLen at hc; omega, fun _ => ⟨_, _, rfl, fun j u hj => ?_⟩⟩
    refine cell_of_block (by rw [hg]) ?_
    have hj2 : ((K :: bs).map fun u : UInt8 => Value.int .u8 u.toNat)[j]? = some (.int .u8 u.toNat) := by rw [List.getElem?_map, hj]; rfl
    have hjl : j < (1 + bs.length) * 1 := by have := (List.getElem?_eq_some_iff.1 hj).1; simp at this; omega
    have e : cur.toList.take ((1 + bs.length) * 1) = (K :: bs).map fun u : UInt8 => Value.int .u8 u.toNat := by rw [ht]; rfl
    rw [← e, List.getElem?_take, if_pos hjl, Array.getElem?_toList] at hj2
    rw [Nat.zero_add]
    exact hj2

set_option maxRecDepth 100000 in
set_option maxHeartbeats 1000000 in
theorem Doc_one (u : UInt8) (b o cap : Nat) (w : World) (c0 : w.cell? ⟨b, o, none⟩ = some (.int .u8 u.toNat)) (h1 : 1 ≤ cap) (h2 : cap ≤ 9223372036854775807) (hT : Tabs w) : Calls Tryz.prog 22 #[.slice (some ⟨b, o, none⟩) 1 cap] w
    fun e w' => ∃ x l f, e = .returned (.agg #[.int .i64 x.kind, .int .i64 x.num, .string x.text, l, f]) ∧ DocV w w' x l f := by
  obtain ⟨i0, hi, -⟩ := info_parts infoU8
  have hlo : (min 1 1 : Int) = 1 := by decide
  have hhi : (min 1 60 : Int) = 1 := by decide
  have hlt := lt_of_cell c0
  have hu : u.toNat < 256 := u.toNat_lt
  have hBB : ∀ o1 o2, Below w.heap.size w ((w.alloc o1).alloc o2) := fun o1 o2 => ((Below.refl _ _).alloc (Nat.le_refl _) _).alloc (by simp) _
  have hM : ∀ o, Calls Tryz.prog 25 #[.slice (some ⟨w.heap.size + 1, 0, none⟩) 1 1, .int .i64 4] ((w.alloc o).alloc (.cells #[.int .u8 (5 + 6 * ((u.toNat : Int) % 16))] 5)) _ := fun o => Made_doc (UInt8.ofNat (5 + 6 * (u.toNat % 16))) [] (some ⟨w.heap.size + 1, 0, none⟩) 1 _ ⟨_, _, rfl, Nat.le_refl _, by omega, fun _ => ⟨_, _, rfl, fun j v hj => by
    cases j with
    | zero => simp only [List.getElem?_cons_zero, Option.some.injEq] at hj; subst hj; rw [doc_byte]; exact cell_of_block (by have := heap_alloc_new (w.alloc o) (.cells #[.int .u8 (5 + 6 * ((u.toNat : Int) % 16))] 5); simp only [World.size_alloc] at this; exact this) rfl
    | succ j => simp at hj⟩⟩ (hT.below (hBB _ _)) (by rw [doc_byte]; omega)
  obtain ⟨c, hc⟩ : ∃ c : Int, (u.toNat : Int) = c := ⟨_, rfl⟩
  rw [hc] at c0
  simp only [hc] at hM
  have c1 : 0 ≤ c := by omega
  have c2 : c ≤ 255 := by omega
  clear hc hu
  go_enter Tryz.func22, Tryz.ntmps22
  go_wp2_with (first | (at_builtin; refine wpList_append_zero rfl (.tmp 17) (.tmp 25) 22 rfl 5 i0 Tryz.underlying22 hi _ _ _ rfl rfl ?_))
  all_goals
    refine (hM _).mono ?_
    rintro e w1 ⟨x, l, f, r, rfl, ⟨hnx, hrx, -, hb1⟩, hk⟩
    obtain ⟨bl, dl, bf, df, rfl, rfl⟩ := hrx.slices
    have q1 := row_below hb1 ((Below.heap_alloc (w.alloc _) _ _ (by simp)).trans (heap_alloc_new w _))
    obtain ⟨o0, o1, o2, o3, o4, of⟩ := row5 q1
    have hz1 : w.heap.size < w1.heap.size := lt_of_heap q1
    have hB1 : Below w.heap.size w w1 := (hBB _ _).trans (hb1.mono (hBB _ _).size)
    have hle : w.heap.size + 1 ≤ ((w.alloc (.cells #[.int .i64 0, .int .i64 0, .string ⟨#[]⟩, .slice none 0 0, .slice none 0 0] 31)).alloc (.cells #[.int .u8 (5 + 6 * (c % 16))] 5)).heap.size := by simp
    have S := (show Hid _ from And.intro hnx (And.intro hrx (And.intro hk hle)))
    clear hnx hrx hb1 q1 hk hle
    go_wp2
    refine bodyPost_ret (v := .agg #[.int .i64 x.kind, .int .i64 x.num, .string x.text, .slice bl x.list.length dl, .slice bf x.fields.length df]) (by simp [results, Tryz.results22, go_sem, o0, o1, o2, o3, o4, hz1]) rfl ⟨x, _, _, rfl, ⟨S.out.1, ?_, ?_⟩, S.out.2.2.1⟩
    · have hle := S.out.2.2.2
      refine S.out.2.1.move fun b hb hl => ⟨by omega, ?_⟩
      rw [Below.heap_alloc _ _ b (by simpa using hl)]
      exact set5W_ne w1 w.heap.size 0 1 2 3 4 _ _ _ _ _ (by omega)
    · exact (set5W_below hB1 (Nat.le_refl _) 0 1 2 3 4 _ _ _ _ _).alloc (by rw [set5W_size]; omega) _

set_option maxRecDepth 100000 in
set_option maxHeartbeats 1000000 in
theorem Doc_two (u : UInt8) (t : List UInt8) (b o cap : Nat) (w : World) (c0 : w.cell? ⟨b, o, none⟩ = some (.int .u8 u.toNat)) (ht : ∀ (j : Nat) (v : UInt8), t[j]? = some v → w.cell? ⟨b, o + 1 + j, none⟩ = some (.int .u8 v.toNat)) (hne : t ≠ []) (h1 : t.length + 1 ≤ cap) (h2 : cap ≤ 9223372036854775807) (hT : Tabs w) : Calls Tryz.prog 22 #[.slice (some ⟨b, o, none⟩) (t.length + 1) cap] w
    fun e w' => ∃ x l f, e = .returned (.agg #[.int .i64 x.kind, .int .i64 x.num, .string x.text, l, f]) ∧ DocV w w' x l f := by
  obtain ⟨i0, hi, hz0, hz1, hz2⟩ := info_parts infoU8
  have hlt := lt_of_cell c0
  have hu : u.toNat < 256 := u.toNat_lt
  have htl : 0 < t.length := List.length_pos_iff.2 hne
  obtain ⟨bs, hbs⟩ : ∃ bs, bs = t.take 59 := ⟨_, rfl⟩
  have hbl : bs.length = min 59 t.length := by rw [hbs, List.length_take]
  obtain ⟨W, hW⟩ : ∃ W, W = (w.alloc (.cells #[.int .i64 0, .int .i64 0, .string ⟨#[]⟩, .slice none 0 0, .slice none 0 0] 31)).alloc (.cells #[.int .u8 (5 + 6 * ((u.toNat : Int) % 16))] 5) := ⟨_, rfl⟩
  have hBW : Below w.heap.size w W := by rw [hW]; exact ((Below.refl _ _).alloc (Nat.le_refl _) _).alloc (by simp) _
  have hsz : W.heap.size = w.heap.size + 1 + 1 := by rw [hW]; simp
  have hown : Hid (W.ownsRow (w.heap.size + 1) 5 1 (.slice (some ⟨w.heap.size + 1, 0, none⟩) 1 1) 1 [.int .u8 (5 + 6 * ((u.toNat : Int) % 16))]) := by
    have := World.ownsRow_lit (base := w.heap.size + 1) (e := 5) (size := 1) (w.alloc (.cells #[.int .i64 0, .int .i64 0, .string ⟨#[]⟩, .slice none 0 0, .slice none 0 0] 31)) #[.int .u8 (5 + 6 * ((u.toNat : Int) % 16))] 1 (by simp) (by decide) rfl
    simp only [World.size_alloc] at this
    rw [← hW] at this
    exact this
  have hq : W.heap[w.heap.size]? = some (.cells #[.int .i64 0, .int .i64 0, .string ⟨#[]⟩, .slice none 0 0, .slice none 0 0] 31) := by rw [hW]; exact (Below.heap_alloc (w.alloc _) _ _ (by simp)).trans (heap_alloc_new w _)
  have hnews : Hid (∀ (j : Nat) (v : Value), (bs.map fun u : UInt8 => Value.int .u8 u.toNat)[j]? = some v → W.cell? ((⟨b, o + 1, none⟩ : Addr).add j) = some v) := by
    intro j v hj
    rw [List.getElem?_map] at hj
    obtain ⟨y, hy, rfl⟩ := Option.map_eq_some_iff.1 hj
    rw [hbs, List.getElem?_take] at hy
    split at hy
    · have := ht j y hy
      rw [Addr.add_lit]
      exact (hBW.cell (lt_of_cell this)).trans this
    · cases hy
  have hone : Hid (∀ v ∈ (bs.map fun u : UInt8 => Value.int .u8 u.toNat), v.oneCell' = true) := by
    intro v hv
    obtain ⟨y, _, rfl⟩ := List.mem_map.1 hv
    rfl
  have hnl : ∀ M, M = bs.length + 1 → (bs.map fun u : UInt8 => Value.int .u8 u.toNat).length = (M - 1) * 1 := fun M hM => by simp; omega
  have hM : ∀ w3 v', w3.ownsRow (w.heap.size + 1) 5 1 v' (1 + bs.length) ([.int .u8 (5 + 6 * ((u.toNat : Int) % 16))] ++ bs.map fun u => .int .u8 u.toNat) → Below w.heap.size w w3 → ∃ g cap, v' = .slice (some ⟨g, 0, none⟩) (bs.length + 1) cap ∧ Calls Tryz.prog 25 #[.slice (some ⟨g, 0, none⟩) (bs.length + 1) cap, .int .i64 4] w3
      fun e w' => ∃ x l f r, e = .returned (.tuple #[.agg #[.int .i64 x.kind, .int .i64 x.num, .string x.text, l, f], r]) ∧ (MadeV 3 w3 w' (.slice (some ⟨g, 0, none⟩) (bs.length + 1) cap) (UInt8.ofNat (5 + 6 * (u.toNat % 16)) :: bs) x l f r ∧ x.kind = 5) := by
    intro w3 v' h3 hB3
    obtain ⟨g, cap, rfl, hbt⟩ := own_bytes (doc_byte u) rfl h3
    exact ⟨g, cap, rfl, Made_doc _ _ _ _ _ hbt (hT.below hB3) (by rw [doc_byte]; omega)⟩
  obtain ⟨c, hc⟩ : ∃ c : Int, (u.toNat : Int) = c := ⟨_, rfl⟩
  rw [hc] at c0 hown hW
  simp only [hc] at hM
  have c1 : 0 ≤ c := by omega
  have c2 : c ≤ 255 := by omega
  obtain ⟨L, hL⟩ : ∃ L, L = t.length + 1 := ⟨_, rfl⟩
  obtain ⟨M, hMb⟩ : ∃ M, M = bs.length + 1 := ⟨_, rfl⟩
  have l1 : (0 : Int) < L := by omega
  have hlo : min (L : Int) 1 = 1 := by omega
  have hhi : min (L : Int) 60 = (M : Int) := by omega
  have l2 : (1 : Int) ≤ M := by omega
  have l3 : (M : Int) ≤ cap := by omega
  have l4 : cap ≠ 1 := by omega
  have HM := (show Hid _ from hM)
  have hnl' := (show Hid _ from hnl M hMb)
  have hbd : Hid (M - 1 = bs.length ∧ bs.length ≤ 59) := ⟨by omega, by omega⟩
  have X := (show Hid _ from And.intro hBW (And.intro hsz hq))
  rw [← hL]
  clear hL hbl h1 h2 ht hc hu htl hbs hM hnl hBW hsz hq hMb
  go_enter Tryz.func22, Tryz.ntmps22
  go_wp2_with (first | (at_builtin; rw [← hW]; refine wpList_append_own _ rfl (.tmp 17) (.tmp 25) 22 rfl (w.heap.size + 1) 5 i0 _ 1 1 Tryz.underlying22 hi hz0 hz1 hz2 rfl (by decide) (.slice (some ⟨w.heap.size + 1, 0, none⟩) 1 1) 1 _ rfl hown.out ⟨b, o + 1, none⟩ (M - 1) (cap - 1) _ rfl hnl'.out hnews.out hone.out (by have := hbd.out; unfold maxLen; omega) (by have := hbd.out; omega) (by have := X.out.2.1; omega) ?_; intro v' w3 h3 hg3 _; rw [hbd.out.1] at h3; have hB3 : Below w.heap.size w w3 := X.out.1.grown hg3 X.out.1.size (fun k e => by simp [Value.ownBlock] at e; omega); obtain ⟨g, cap', rfl, hcall⟩ := HM.out w3 v' h3 hB3; have hq3 := (hg3.block w.heap.size (by have := X.out.2.1; omega) (by simp [Value.ownBlock])).trans X.out.2.2; have hz3 : w.heap.size + 1 ≤ w3.heap.size := (by have := X.out.2.1; have := hg3.size; omega); have Y := (show Hid _ from And.intro hB3 (And.intro hq3 hz3)); clear h3 hg3 hB3 hq3 hz3))
  refine hcall.mono ?_
  rintro e w1 ⟨x, l, f, r, rfl, ⟨hnx, hrx, -, hb1⟩, hk⟩
  obtain ⟨bl, dl, bf, df, rfl, rfl⟩ := hrx.slices
  have q1 := row_below hb1 Y.out.2.1
  obtain ⟨o0, o1, o2, o3, o4, of⟩ := row5 q1
  have hz1 : w.heap.size < w1.heap.size := lt_of_heap q1
  have hB1 : Below w.heap.size w w1 := Y.out.1.trans (hb1.mono Y.out.1.size)
  have hle : w.heap.size + 1 ≤ w3.heap.size := Y.out.2.2
  have S := (show Hid _ from And.intro hnx (And.intro hrx (And.intro hk hle)))
  clear hnx hrx hb1 q1 hk hle
  go_wp2
  refine bodyPost_ret (v := .agg #[.int .i64 x.kind, .int .i64 x.num, .string x.text, .slice bl x.list.length dl, .slice bf x.fields.length df]) (by simp [results, Tryz.results22, go_sem, o0, o1, o2, o3, o4, hz1]) rfl ⟨x, _, _, rfl, ⟨S.out.1, ?_, ?_⟩, S.out.2.2.1⟩
  · have hle := S.out.2.2.2
    refine S.out.2.1.move fun b hb hl => ⟨by omega, ?_⟩
    rw [Below.heap_alloc _ _ b (by simpa using hl)]
    exact set5W_ne w1 w.heap.size 0 1 2 3 4 _ _ _ _ _ (by omega)
  · exact (set5W_below hB1 (Nat.le_refl _) 0 1 2 3 4 _ _ _ _ _).alloc (by rw [set5W_size]; omega) _

theorem Doc_any (s : Value) (bs : List UInt8) (w : World) (hb : BytesAt w s bs) (hT : Tabs w) : Calls Tryz.prog 22 #[s] w
    fun e w' => ∃ x l f, e = .returned (.agg #[.int .i64 x.kind, .int .i64 x.num, .string x.text, l, f]) ∧ DocV w w' x l f := by
  obtain ⟨a, cap, rfl, h1, h2, h3⟩ := hb
  cases bs with
  | nil => exact Doc_nil a cap w h2 hT
  | cons u t =>
    obtain ⟨b, o, rfl, hc⟩ := h3 (by simp)
    have c0 := hc 0 u rfl
    by_cases ht : t = []
    · subst ht
      exact Doc_one u b o cap w c0 h1 h2 hT
    · exact Doc_two u t b o cap w c0 (fun j v hj => by have := hc (j + 1) v hj; rwa [show o + (j + 1) = o + 1 + j by omega] at this) ht h1 h2 hT
end Go.Proofs.YtnkoblhdbccbeaaGreatDoor
