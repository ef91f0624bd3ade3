/-
  The law's Put by its contract: values. Conditions: as stated.
  The law's Spec: a description of few paths. No conditions beyond those stated.
  A heap of records as it lies in memory. No conditions beyond those stated.
  slices.Delete at records by its contract. No conditions beyond those stated.
  Entries, and what is told of nodes, as cells. No conditions beyond those stated.
-/
import Derived.Test.YtfpkkobclkdniaaGreatDoorU14
import Derived.Test.YtfpkkobclkdniaaGreatDoorU12
import Derived.Deep.RegionHeld3
import Derived.Test.YtfpkkobclkdniaaGreatDoorU3
import Derived.Test.YtfpkkobclkdniaaGreatDoorU2
import Derived.Laws.OwnMore
import Derived.Test.YtfpkkobclkdniaaGreatDoorProg
import Derived.Test.YtfpkkobclkdniaaGreatDoorU1
namespace Go.Proofs.YtfpkkobclkdniaaGreatDoor
open Go.RowKit

set_option maxRecDepth 100000 in
theorem lput_list_none (num : Int) (text : ByteArray) (a2 : Option Addr) (n2 c2 : Nat) (w : World) :
    Calls Tryz.prog 29 #[.agg #[.int .i64 4, .int .i64 num, .string text, .slice none 0 0, .slice a2 n2 c2]] w fun e w' => e = .returned (.string ⟨#[5, 0]⟩) ∧ Below w.heap.size w w' := by
  have hcv := byte_str (w.alloc (.cells #[.int .i64 4, .int .i64 num, .string text, .slice none 0 0, .slice a2 n2 c2] 40)) (w.heap.size + 1) (by simp) 5 (by decide) (by decide)
  rw [show UInt8.ofNat (5 : Int).toNat = 5 from rfl] at hcv
  go_enter Tryz.func29, Tryz.ntmps29
  go_wp2_with fail
  refine wp_loop_rounds 1 ?_
  rw [rounds_succ]
  go_wp2_with fail
  go_ret
  exact ⟨rfl, kd_below w⟩
set_option maxRecDepth 100000 in
theorem lput_fields_none (num : Int) (text : ByteArray) (a2 : Option Addr) (n2 c2 : Nat) (w : World) :
    Calls Tryz.prog 29 #[.agg #[.int .i64 5, .int .i64 num, .string text, .slice a2 n2 c2, .slice none 0 0]] w fun e w' => e = .returned (.string ⟨#[6, 0]⟩) ∧ Below w.heap.size w w' := by
  have hcv := byte_str (w.alloc (.cells #[.int .i64 5, .int .i64 num, .string text, .slice a2 n2 c2, .slice none 0 0] 40)) (w.heap.size + 1) (by simp) 6 (by decide) (by decide)
  rw [show UInt8.ofNat (6 : Int).toNat = 6 from rfl] at hcv
  go_enter Tryz.func29, Tryz.ntmps29
  go_wp2_with fail
  refine wp_loop_rounds 1 ?_
  rw [rounds_succ]
  go_wp2_with fail
  go_ret
  exact ⟨rfl, kd_below w⟩
theorem lput_plain (n : Nat) (kd num : Int) (text : ByteArray) (ls : List V) (fs : List (ByteArray × V)) (hn : I64 num) (hb : kd = 1 → num = 0 ∨ num = 1) (ht : text.size ≤ 1000000) (h0 : 0 ≤ kd) (h3 : kd ≤ 3) (a1 : Option Addr) (n1 c1 : Nat) (a2 : Option Addr) (n2 c2 : Nat) (w : World) :
    Calls Tryz.prog 29 #[.agg #[.int .i64 kd, .int .i64 num, .string text, .slice a1 n1 c1, .slice a2 n2 c2]] w fun e w' => e = .returned (.string ⟨(putV (n + 1) ⟨kd, num, text, ls, fs⟩).toArray⟩) ∧ Below w.heap.size w w' := by
  obtain rfl | rfl | rfl | rfl : kd = 0 ∨ kd = 1 ∨ kd = 2 ∨ kd = 3 := by omega
  · exact lput_bare num text a1 n1 c1 a2 n2 c2 w
  · exact lput_bool text a1 n1 c1 a2 n2 c2 w num (hb rfl)
  · exact lput_int num text a1 n1 c1 a2 n2 c2 w hn
  · exact lput_text num text a1 n1 c1 a2 n2 c2 w ht
theorem lput_any : ∀ n, LPutAt n
  | 0 => by
    rintro ⟨kd, num, text, ls, fs⟩ hn l f w ⟨h1, h2, rfl, rfl⟩ hlen
    simp only at h1 h2 ⊢
    subst h1 h2
    obtain ⟨p0, p1, p2, p3⟩ := hn.partsK
    simp only at p0 p1 p2 p3
    by_cases h3 : kd ≤ 3
    · exact lput_plain 0 kd num text [] [] p2 p3.2 (Nat.le_trans p3.size (by decide)) p0 h3 _ _ _ _ _ _ w
    · obtain rfl | rfl : kd = 4 ∨ kd = 5 := by omega
      · exact lput_list_none num text _ _ _ w
      · exact lput_fields_none num text _ _ _ w
  | n + 1 => by
    rintro ⟨kd, num, text, ls, gs⟩ hn l f w hl hlen
    obtain ⟨⟨es, e1, e2, e3⟩, ⟨fs, f1, f2, f3⟩⟩ := id hl
    obtain ⟨_, _, _, _, _, _, _, k1, k2⟩ := id hn
    obtain ⟨a1, n1, c1, a2, n2, c2, rfl, rfl⟩ := hl.shape
    obtain ⟨p0, p1, p2, p3⟩ := hn.partsK
    simp only at p0 p1 p2 p3 e1 e2 e3 f1 f2 f3 k1 k2
    by_cases h3 : kd ≤ 3
    · exact lput_plain (n + 1) kd num text ls gs p2 p3.2 (Nat.le_trans p3.size (by decide)) p0 h3 _ _ _ _ _ _ w
    · obtain rfl | rfl : kd = 4 ∨ kd = 5 := by omega
      · have hlen' : (5 :: (ls.flatMap (putV (n + 1)) ++ [0])).length ≤ 100000 := hlen
        rw [List.length_cons, List.length_append, List.length_singleton] at hlen'
        exact lput_list n (lput_any n) num text _ _ _ w es _ e2 e3 (fun e he => k1 _ (by rw [← e1]; exact List.mem_map.2 ⟨e, he, rfl⟩)) ls e1.symm (by omega)
      · have hlen' : (6 :: (gs.flatMap (fieldL (putV (n + 1))) ++ [0])).length ≤ 100000 := hlen
        rw [List.length_cons, List.length_append, List.length_singleton] at hlen'
        refine lput_fields n (lput_any n) num text _ _ _ w fs _ f2 f3 (fun e he => ?_) gs f1.symm (by omega)
        obtain ⟨⟨i, hi⟩, h⟩ := k2 e.pair (by rw [← f1]; exact List.mem_map.2 ⟨e, he, rfl⟩)
        exact ⟨by rw [show e.name = nameAt i from hi]; exact nameAt_size i, h⟩
end Go.Proofs.YtfpkkobclkdniaaGreatDoor

namespace Go.Proofs.YtfpkkobclkdniaaGreatDoor
open Go.RowKit

def specPath (n : Int) : ByteArray := if n % 5 = 0 then ⟨#[97]⟩ else if n % 5 = 1 then ⟨#[98]⟩ else if n % 5 = 2 then ⟨#[97, 46, 98]⟩ else if n % 5 = 3 then ⟨#[99, 46, 48]⟩ else ⟨#[110]⟩
def specParts (n : Int) : List ByteArray := if n % 5 = 0 then [⟨#[97]⟩] else if n % 5 = 1 then [⟨#[98]⟩] else if n % 5 = 2 then [⟨#[97]⟩, ⟨#[98]⟩] else if n % 5 = 3 then [⟨#[99]⟩, ⟨#[48]⟩] else [⟨#[110]⟩]
def specName (n : Int) : ByteArray := ⟨#[105, UInt8.ofNat (48 + n % 10).toNat]⟩
theorem five (n : Int) : n % 5 = 0 ∨ n % 5 = 1 ∨ n % 5 = 2 ∨ n % 5 = 3 ∨ n % 5 = 4 := by omega
theorem parse_one (x : UInt8) (hv : Lib.validD [x] = true) (hd : dots ⟨#[x]⟩ = [⟨#[x]⟩]) : parsePP ⟨#[x]⟩ = some [⟨#[x]⟩] := by
  rw [parse_good ⟨hv, by rw [hd]; show (1 : Nat) ≤ 8; omega, by
    rw [hd]
    intro p hp
    obtain rfl := List.mem_singleton.1 hp
    exact ⟨(by show 0 < 1; omega), (by show 1 ≤ 32; omega)⟩⟩, hd]
theorem parse_two (x y : UInt8) (hv : Lib.validD [x, 46, y] = true) (hd : dots ⟨#[x, 46, y]⟩ = [⟨#[x]⟩, ⟨#[y]⟩]) : parsePP ⟨#[x, 46, y]⟩ = some [⟨#[x]⟩, ⟨#[y]⟩] := by
  rw [parse_good ⟨hv, by rw [hd]; show (2 : Nat) ≤ 8; omega, by
    rw [hd]
    intro p hp
    rcases List.mem_cons.1 hp with rfl | hp
    · exact ⟨(by show 0 < 1; omega), (by show 1 ≤ 32; omega)⟩
    · obtain rfl := List.mem_singleton.1 hp
      exact ⟨(by show 0 < 1; omega), (by show 1 ≤ 32; omega)⟩⟩, hd]
theorem vs0 : Lib.validD [97] = true := by decide +kernel
theorem vs1 : Lib.validD [98] = true := by decide +kernel
theorem vs2 : Lib.validD [97, 46, 98] = true := by decide +kernel
theorem vs3 : Lib.validD [99, 46, 48] = true := by decide +kernel
theorem vs4 : Lib.validD [110] = true := by decide +kernel
theorem spec_at (n : Int) : (n % 5 = 0 ∧ specPath n = ⟨#[97]⟩ ∧ specParts n = [⟨#[97]⟩]) ∨ (n % 5 = 1 ∧ specPath n = ⟨#[98]⟩ ∧ specParts n = [⟨#[98]⟩]) ∨ (n % 5 = 2 ∧ specPath n = ⟨#[97, 46, 98]⟩ ∧ specParts n = [⟨#[97]⟩, ⟨#[98]⟩]) ∨ (n % 5 = 3 ∧ specPath n = ⟨#[99, 46, 48]⟩ ∧ specParts n = [⟨#[99]⟩, ⟨#[48]⟩]) ∨ (n % 5 = 4 ∧ specPath n = ⟨#[110]⟩ ∧ specParts n = [⟨#[110]⟩]) := by
  unfold specPath specParts
  rcases five n with h | h | h | h | h <;> simp [h]
theorem spec_parse (n : Int) : parsePP (specPath n) = some (specParts n) := by
  rcases spec_at n with ⟨-, h1, h2⟩ | ⟨-, h1, h2⟩ | ⟨-, h1, h2⟩ | ⟨-, h1, h2⟩ | ⟨-, h1, h2⟩ <;> rw [h1, h2]
  · exact parse_one 97 vs0 rfl
  · exact parse_one 98 vs1 rfl
  · exact parse_two 97 98 vs2 rfl
  · exact parse_two 99 48 vs3 rfl
  · exact parse_one 110 vs4 rfl
theorem tenM (n : Int) : n % 10 = 0 ∨ n % 10 = 1 ∨ n % 10 = 2 ∨ n % 10 = 3 ∨ n % 10 = 4 ∨ n % 10 = 5 ∨ n % 10 = 6 ∨ n % 10 = 7 ∨ n % 10 = 8 ∨ n % 10 = 9 := by omega
theorem spec_name (n : Int) : nameOK (specName n) = true := by
  unfold specName
  rcases tenM n with h | h | h | h | h | h | h | h | h | h <;> rw [h] <;> decide +kernel
theorem spec_size (n : Int) : (specPath n).size ≤ 2147483648 := by
  unfold specPath
  repeat' split
  all_goals decide
theorem name_size (n : Int) : (specName n).size ≤ 2147483648 := by show (2 : Nat) ≤ 2147483648; omega
theorem keyS_spec (n : Int) (v : V) : keyS (specPath n) v = keyP (specParts n) v := by unfold keyS; rw [spec_parse]; rfl
theorem errC_spec (n : Int) : errC (specName n) (specPath n) = 0 := by unfold errC; rw [if_pos (spec_name n), spec_parse]; rfl
theorem parts_len (n : Int) : (specParts n).length ≤ 2 := by
  unfold specParts
  repeat' split
  all_goals decide
theorem tenI_le : ∀ {m n : Nat} {v : V}, m ≤ n → Ten n v → Ten m v
  | 0, _, _, _, _ => trivial
  | m + 1, 0, _, h, _ => by omega
  | m + 1, n + 1, _, h, ⟨h1, h3, h4⟩ => ⟨h1, fun x hx => tenI_le (by omega) (h3 x hx), fun p hp => tenI_le (by omega) (h4 p hp)⟩
theorem niceI_ten : ∀ (n : Nat) (v : V), Nice n v → Ten (n + 1) v
  | 0, v, ⟨_, _, _, _, h5, h6⟩ => ⟨by rw [h5]; decide, fun x hx => (by rw [h5] at hx; cases hx), fun p hp => (by rw [h6] at hp; cases hp)⟩
  | n + 1, v, ⟨_, _, _, _, h5, h6, h7, h8, h9⟩ => ⟨by omega, fun x hx => niceI_ten n x (h8 x hx), fun p hp => niceI_ten n p.2 (h9 p hp).2⟩
theorem lput_key (m : Nat) (x : V) (l f : Value) (w : World) (hN : Nice 3 x) (hL : Lies m w x l f) :
    Calls Tryz.prog 29 #[.agg #[.int .i64 x.kind, .int .i64 x.num, .string x.text, l, f]] w fun e w' => e = .returned (.string (keyT x)) ∧ Below w.heap.size w w' := by
  rw [← key_four hN]
  exact lput_any 4 x (Nice.moreI 3 hN) l f w (lies_nice 3 hL hN) (Nat.le_trans (put_len 4 x (Nice.moreI 3 hN)) (by decide))
theorem wpAnyH_mono {P : Program} {md : Region.Mode} {ops : Array Oper} {Q : Exit → Act → World → Prop} {S S' : World → Prop} (hs : ∀ w, S' w → S w) : ∀ (fuel : Nat) (listed : Array Bool) (a : Act) (w : World), wpAnyH P md ops Q S' fuel listed a w → wpAnyH P md ops Q S fuel listed a w
  | 0, _, _, _, h => h
  | fuel + 1, _, _, _, h => ⟨h.1, fun i hi => wpOp_mono (fun a' w' h' => ⟨hs w' h'.1, wpAnyH_mono hs fuel _ a' w' h'.2⟩) (h.2 i hi)⟩
end Go.Proofs.YtfpkkobclkdniaaGreatDoor

namespace Go.Proofs.YtfpkkobclkdniaaGreatDoor
open Go.RowKit

/-- a record: its number, what it is, where its list and its fields lie. -/
structure Dl where
  id : Int
  v : V
  l : Value
  f : Value
def Dl.enc (e : Dl) : List Value := [.int .i64 e.id, .int .i64 e.v.kind, .int .i64 e.v.num, .string e.v.text, e.l, e.f]
def Dl.pairR (e : Dl) : Rec := (e.id, e.v)
def encDs (ds : List Dl) : List Value := ds.flatMap Dl.enc

theorem encDs_length : ∀ ds : List Dl, (encDs ds).length = ds.length * 6
  | [] => rfl
  | e :: ds => by
    have ih := encDs_length ds
    unfold encDs at ih ⊢
    rw [List.flatMap_cons, List.length_append, ih, List.length_cons]
    simp [Dl.enc]; omega
theorem encDs_append (a b : List Dl) : encDs (a ++ b) = encDs a ++ encDs b := by simp [encDs]
theorem encDs_at : ∀ (ds : List Dl) (i j : Nat) (e : Dl) (u : Value), ds[i]? = some e → e.enc[j]? = some u → (encDs ds)[i * 6 + j]? = some u
  | [], _, _, _, _, h, _ => by simp at h
  | e :: ds, 0, j, e', u, h, hu => by
    simp at h; subst h
    have : j < e.enc.length := (List.getElem?_eq_some_iff.1 hu).1
    unfold encDs
    rw [List.flatMap_cons, List.getElem?_append_left (by omega), Nat.zero_mul, Nat.zero_add]; exact hu
  | e :: ds, i + 1, j, e', u, h, hu => by
    have ih := encDs_at ds i j e' u (by simpa using h) hu
    unfold encDs at ih ⊢
    have hl : e.enc.length = 6 := rfl
    rw [List.flatMap_cons, List.getElem?_append_right (by omega), hl, show (i + 1) * 6 + j - 6 = i * 6 + j by omega]
    exact ih
theorem encDs_take : ∀ (fs : List Dl) (i : Nat), (encDs fs).take (i * 6) = encDs (fs.take i)
  | [], i => by simp [encDs]
  | f :: fs, 0 => by simp [encDs]
  | f :: fs, i + 1 => by
    have ih := encDs_take fs i
    unfold encDs at ih ⊢
    rw [List.take_succ_cons, List.flatMap_cons, List.flatMap_cons, show (i + 1) * 6 = f.enc.length + i * 6 by simp [Dl.enc]; omega, List.take_length_add_append, ih]
theorem encDs_drop : ∀ (fs : List Dl) (i : Nat), (encDs fs).drop (i * 6) = encDs (fs.drop i)
  | [], i => by simp [encDs]
  | f :: fs, 0 => by simp [encDs]
  | f :: fs, i + 1 => by
    have ih := encDs_drop fs i
    unfold encDs at ih ⊢
    rw [List.drop_succ_cons, List.flatMap_cons, show (i + 1) * 6 = f.enc.length + i * 6 by simp [Dl.enc]; omega, List.drop_length_add_append, ih]
theorem encDs_one {ds : List Dl} (h : ∀ e ∈ ds, ∃ a1 n1 c1 a2 n2 c2, e.l = .slice a1 n1 c1 ∧ e.f = .slice a2 n2 c2) : ∀ u ∈ encDs ds, u.oneCell' = true := by
  intro u hu
  obtain ⟨e, he, hu⟩ := List.mem_flatMap.1 hu
  obtain ⟨a1, n1, c1, a2, n2, c2, h1, h2⟩ := h e he
  simp only [Dl.enc, h1, h2, List.mem_cons, List.not_mem_nil, or_false] at hu
  rcases hu with rfl | rfl | rfl | rfl | rfl | rfl <;> rfl
theorem encDs_set (ds : List Dl) (j : Nat) (e e' : Dl) (h : ds[j]? = some e) : encDs (ds.set j e') = encDs (ds.take j) ++ e'.enc ++ encDs (ds.drop (j + 1)) := by
  have hj := (List.getElem?_eq_some_iff.1 h).1
  rw [List.set_eq_take_append_cons_drop, if_pos hj, encDs_append]
  simp [encDs]

/-- whatever is a row of cells stays as it was. -/
def Cells (w w' : World) : Prop := ∀ (b : Nat) (cur : Array Value) (t : TypeId), w.heap[b]? = some (Obj.cells cur t (0, 0)) → w'.heap[b]? = w.heap[b]?
/-- all stays as it was but heaps and their rows of records. -/
def Kept (w w' : World) : Prop := ∀ (b : Nat) (o : Obj), w.heap[b]? = some o → (∀ cur, o ≠ Obj.cells cur 89 (0, 0)) → (∀ cur, o ≠ Obj.cells cur 94 (0, 0)) → w'.heap[b]? = some o
theorem Kept.refl (w : World) : Kept w w := fun _ _ h _ _ => h
theorem Kept.trans {a b c : World} (h : Kept a b) (k : Kept b c) : Kept a c := fun i o ho h1 h2 => k i o (h i o ho h1 h2) h1 h2
theorem below_kept {w w' : World} (h : Below w.heap.size w w') : Kept w w' := fun b o ho _ _ => by rw [h.block b (lt_of_heap ho)]; exact ho
theorem Cells.refl (w : World) : Cells w w := fun _ _ _ _ => rfl
theorem Cells.trans {a b c : World} (h : Cells a b) (k : Cells b c) : Cells a c := fun i cur t ho => by
  have h1 := h i cur t ho
  rw [k i cur t (h1.trans ho), h1]
theorem below_cells {w w' : World} (h : Below w.heap.size w w') : Cells w w' := fun b _ _ ho => h.block b (lt_of_heap ho)
theorem Cells.of_map {w w' : World} {M k : Nat} {es : Array MapEntry} (hm : w.heap[M]? = some (.map es k)) (hg : w.grownBy w' (some M)) : Cells w w' := fun b cur t ho =>
  hg.block b (lt_of_heap ho) fun e => by cases e; rw [hm] at ho; cases ho
theorem Cells.of_iter {w w' : World} {r s c : Nat} {m : Option Nat} {seen : Array Nat} (hm : w.heap[r]? = some (.mapIter m s seen c)) (hg : w.grownBy w' (some r)) : Cells w w' := fun b cur t ho =>
  hg.block b (lt_of_heap ho) fun e => by cases e; rw [hm] at ho; cases ho

theorem RowAt.keepT {ok : Nat → Prop} {W W' : World} {t k n : Nat} {s : Value} {xs : List Value} (hk : ∀ (b : Nat) (cur : Array Value), W.heap[b]? = some (Obj.cells cur t (0, 0)) → W'.heap[b]? = W.heap[b]?) (h : RowAt ok W t k s n xs) : RowAt ok W' t k s n xs := by
  refine ⟨⟨h.1.1, ?_⟩, h.2.1, h.2.2⟩
  rcases h.1.2 with hn | ⟨g, cap, cur, e, hb, hg, rest⟩
  · exact .inl hn
  · exact .inr ⟨g, cap, cur, e, hb, (hk g cur hg).trans hg, rest⟩
theorem Rep.keepT {ok : Nat → Prop} {W W' : World} (h1 : ∀ (b : Nat) (cur : Array Value), W.heap[b]? = some (Obj.cells cur 40 (0, 0)) → W'.heap[b]? = W.heap[b]?) (h2 : ∀ (b : Nat) (cur : Array Value), W.heap[b]? = some (Obj.cells cur 72 (0, 0)) → W'.heap[b]? = W.heap[b]?) :
    ∀ {n : Nat} {v : V} {l f : Value}, Rep ok n W v l f → Rep ok n W' v l f
  | 0, _, _, _, h => h
  | _n + 1, _, _, _, ⟨⟨es, e1, e2, e3⟩, ⟨fs, f1, f2, f3⟩⟩ =>
    ⟨⟨es, e1, e2.keepT h1, fun e he => Rep.keepT h1 h2 (e3 e he)⟩, ⟨fs, f1, f2.keepT h2, fun e he => Rep.keepT h1 h2 (f3 e he)⟩⟩
theorem Lies.cells {n : Nat} {W W' : World} {v : V} {l f : Value} (h : Lies n W v l f) (k : Cells W W') : Lies n W' v l f := Rep.keepT (fun b cur hb => k b cur _ hb) (fun b cur hb => k b cur _ hb) h
theorem Lies.kept {n : Nat} {W W' : World} {v : V} {l f : Value} (h : Lies n W v l f) (k : Kept W W') : Lies n W' v l f :=
  Rep.keepT (fun b cur hb => (k b _ hb (fun _ e => by cases e) (fun _ e => by cases e)).trans hb.symm) (fun b cur hb => (k b _ hb (fun _ e => by cases e) (fun _ e => by cases e)).trans hb.symm) h

/-- a heap behind a pointer: its records, the number given last; all that it writes to lies from a block on. -/
def HeapAt (base : Nat) (W : World) (B : Nat) (rs : List Rec) (last : Int) : Prop :=
  base ≤ B ∧ ∃ (s : Value) (ds : List Dl), ds.map Dl.pairR = rs ∧ W.heap[B]? = some (Obj.cells #[s, .int .i64 last] 89 (0, 0)) ∧ W.ownsRow base 94 6 s ds.length (encDs ds) ∧ ∀ d ∈ ds, Lies 4 W d.v d.l d.f
theorem ownsRow_cells {base : Nat} {W W' : World} {t k n : Nat} {s : Value} {xs : List Value} (hk : Cells W W') (h : W.ownsRow base t k s n xs) : W'.ownsRow base t k s n xs := by
  refine ⟨h.1, ?_⟩
  rcases h.2 with hn | ⟨g, cap, cur, e, hb, hg, rest⟩
  · exact .inl hn
  · exact .inr ⟨g, cap, cur, e, hb, (hk g cur _ hg).trans hg, rest⟩
theorem HeapAt.cells {base : Nat} {W W' : World} {B : Nat} {rs : List Rec} {last : Int} (h : HeapAt base W B rs last) (k : Cells W W') : HeapAt base W' B rs last := by
  obtain ⟨h0, s, ds, h1, h2, h3, h4⟩ := h
  exact ⟨h0, s, ds, h1, (k B _ _ h2).trans h2, ownsRow_cells k h3, fun d hd => (h4 d hd).cells k⟩
theorem HeapAt.below {base : Nat} {W W' : World} {B : Nat} {rs : List Rec} {last : Int} (h : HeapAt base W B rs last) (k : Below W.heap.size W W') : HeapAt base W' B rs last := h.cells (below_cells k)
theorem HeapAt.lt {base : Nat} {W : World} {B : Nat} {rs : List Rec} {last : Int} (h : HeapAt base W B rs last) : B < W.heap.size := by
  obtain ⟨h0, s, ds, h1, h2, _⟩ := h
  exact lt_of_heap h2

theorem slice_of_row {base : Nat} {W : World} {t k n : Nat} {s : Value} {xs : List Value} (h : W.ownsRow base t k s n xs) : ∃ a c, s = .slice a n c := by
  rcases h.2 with ⟨rfl, rfl⟩ | ⟨g, cap, cur, rfl, _⟩
  · exact ⟨_, _, rfl⟩
  · exact ⟨_, _, rfl⟩
/-- what a row with something in it is. -/
theorem cells_of_row {base : Nat} {W : World} {t k n : Nat} {s : Value} {xs : List Value} (h : W.ownsRow base t k s n xs) (hn : 0 < n) :
    ∃ b c cur, s = .slice (some ⟨b, 0, none⟩) n c ∧ base ≤ b ∧ W.heap[b]? = some (Obj.cells cur t (0, 0)) ∧ n ≤ c ∧ c ≤ 9223372036854775807 ∧ cur.size = c * k ∧ cur.toList.take (n * k) = xs ∧ ∀ j u, xs[j]? = some u → W.cell? ⟨b, j, none⟩ = some u := by
  rcases h.2 with ⟨rfl, rfl⟩ | ⟨g, cap, cur, rfl, hb, hg, h1, h2, h3, h4⟩
  · omega
  · refine ⟨g, cap, cur, rfl, hb, hg, h1, by unfold maxLen at h2; omega, h3, h4, fun j u hj => ?_⟩
    have := h.cells (g := g) rfl j u hj
    rwa [Addr.add_lit, Nat.zero_add] at this
/-- the cells of the record at a place. -/
theorem row_doc {base : Nat} {W : World} {b c n : Nat} {ds : List Dl} (h : W.ownsRow base 94 6 (.slice (some ⟨b, 0, none⟩) n c) n (encDs ds)) {i : Nat} {e : Dl} (he : ds[i]? = some e) :
    W.cell? ⟨b, i * 6, none⟩ = some (.int .i64 e.id) ∧ W.cell? ⟨b, i * 6 + 1, none⟩ = some (.int .i64 e.v.kind) ∧ W.cell? ⟨b, i * 6 + 2, none⟩ = some (.int .i64 e.v.num) ∧ W.cell? ⟨b, i * 6 + 3, none⟩ = some (.string e.v.text) ∧ W.cell? ⟨b, i * 6 + 4, none⟩ = some e.l ∧ W.cell? ⟨b, i * 6 + 5, none⟩ = some e.f := by
  have hc := fun j u hu => by
    have := h.cells (g := b) rfl (i * 6 + j) u (encDs_at ds i j e u he hu)
    rwa [Addr.add_lit, Nat.zero_add] at this
  exact ⟨hc 0 _ rfl, hc 1 _ rfl, hc 2 _ rfl, hc 3 _ rfl, hc 4 _ rfl, hc 5 _ rfl⟩
end Go.Proofs.YtfpkkobclkdniaaGreatDoor

namespace Go.Proofs.YtfpkkobclkdniaaGreatDoor
open Go.RowKit

theorem infoD : (Tryz.prog.info? 94).map (fun i => (i.zero, i.size, i.bytes)) = some (some (.agg #[.int .i64 0, .int .i64 0, .int .i64 0, .string ⟨#[]⟩, .slice none 0 0, .slice none 0 0]), 6, 88) := by kernel_rfl

theorem clear_docs {W : World} {B o n c : Nat} {cur : Array Value} (hg : W.heap[B]? = some (.cells cur 94 (0, 0))) (h : o + (n + 1) * 6 ≤ cur.size) :
    ∃ cs, cs.length = (n + 1) * 6 ∧ ∀ ty, (Builtin.clear_ #[87] ty #[.slice (some ⟨B, o, none⟩) (n + 1) c]).run Tryz.prog W = .ok (.tuple #[]) (W.setRow B (cur.toList.take o ++ cs ++ cur.toList.drop (o + (n + 1) * 6)).toArray) := by
  obtain ⟨i, hi, hz, hs, hby⟩ := info_parts infoD
  refine ⟨(Builtin.zeroCells (Value.agg #[.int .i64 0, .int .i64 0, .int .i64 0, .string ⟨#[]⟩, .slice none 0 0, .slice none 0 0]).cells (n + 1)).toList, ?_, ?_⟩
  · have := size_zeroCells (Value.agg #[.int .i64 0, .int .i64 0, .int .i64 0, .string ⟨#[]⟩, .slice none 0 0, .slice none 0 0]).cells (n + 1)
    rw [Array.length_toList, this]; rfl
  · have hl : (Builtin.zeroCells (Value.agg #[.int .i64 0, .int .i64 0, .int .i64 0, .string ⟨#[]⟩, .slice none 0 0, .slice none 0 0]).cells (n + 1)).toList.length = (n + 1) * 6 := by
      have := size_zeroCells (Value.agg #[.int .i64 0, .int .i64 0, .int .i64 0, .string ⟨#[]⟩, .slice none 0 0, .slice none 0 0]).cells (n + 1)
      rw [Array.length_toList, this]; rfl
    have h1 : ∀ v ∈ (Builtin.zeroCells (Value.agg #[.int .i64 0, .int .i64 0, .int .i64 0, .string ⟨#[]⟩, .slice none 0 0, .slice none 0 0]).cells (n + 1)).toList, v.oneCell' = true := by
      intro v hv
      simp only [Builtin.zeroCells, Array.mem_toList_iff, Array.mem_map, Array.mem_range] at hv
      obtain ⟨r, _, rfl⟩ := hv
      have hr : r % 6 < 6 := Nat.mod_lt _ (by omega)
      have : ∀ q, q < 6 → (#[Value.int .i64 0, .int .i64 0, .int .i64 0, .string ⟨#[]⟩, .slice none 0 0, .slice none 0 0][q]!).oneCell' = true := by
        intro q hq
        match q, hq with
        | 0, _ => rfl
        | 1, _ => rfl
        | 2, _ => rfl
        | 3, _ => rfl
        | 4, _ => rfl
        | 5, _ => rfl
      exact this _ hr
    have hst := run_storeCells_at Tryz.prog B o 94 _ 0 cur W hg (by rw [hl]; simpa using h) h1
    rw [hl] at hst
    simp only [Nat.add_zero] at hst
    intro ty
    simp [Builtin.clear_, run_underlying Tryz.underlying87, zeroValue, typeInfo, hi, hz, hst]

set_option maxHeartbeats 2000000 in
theorem DeleteD_rows (B i m q : Nat) (w : World) (cur : Array Value) (hg : w.heap[B]? = some (.cells cur 94 (0, 0))) (hmq : m ≤ q) (hsz : cur.size = (i + 1 + q) * 6) (hone : ∀ u ∈ (cur.toList.take ((i + 1 + m) * 6)), u.oneCell' = true) (hn : i + 1 + q ≤ 9223372036854775807) :
    Calls Tryz.prog 42 #[.slice (some ⟨B, 0, none⟩) (i + 1 + m) (i + 1 + q), .int .i64 (i : Int), .int .i64 ((i : Int) + 1)] w
      fun e w' => e = .returned (.slice (some ⟨B, 0, none⟩) (i + m) (i + 1 + q)) ∧ (∃ cur', w'.heap[B]? = some (.cells cur' 94 (0, 0)) ∧ cur'.size = (i + 1 + q) * 6 ∧ cur'.toList.take ((i + m) * 6) = cur.toList.take (i * 6) ++ (cur.toList.take ((i + 1 + m) * 6)).drop ((i + 1) * 6)) ∧ w.grownBy w' (some B) := by
  obtain ⟨j0, hi0, hz0, hz1, hz2⟩ := info_parts infoD
  have hic : i ≤ i + 1 + m := by omega
  have hjc : i + 1 ≤ i + 1 + m := by omega
  have hmc : i + 1 + m ≤ i + 1 + q := by omega
  have zi1 : (0 : Int) ≤ (i : Int) + 1 := by omega
  have zi3 : (i : Int) ≤ (i : Int) + 1 + (m : Int) := by omega
  have zi2 : (i : Int) + 1 ≤ (i : Int) + 1 + (m : Int) := by omega
  have zi4 : (i : Int) + 1 + (m : Int) ≤ (i : Int) + 1 + (q : Int) := by omega
  have zi5 : (i : Int) ≤ (i : Int) + 1 + (q : Int) := by omega
  obtain ⟨news, hnews⟩ : ∃ news, news = (cur.toList.take ((i + 1 + m) * 6)).drop ((i + 1) * 6) := ⟨_, rfl⟩
  have hlen : news.length = m * 6 := by rw [hnews]; simp; omega
  obtain ⟨A, hA, hsrc⟩ : ∃ A : Addr, (if q = 0 then some (⟨B, 0, none⟩ : Addr) else some ⟨B, (i + 1) * 6, none⟩) = some A ∧ Hid (∀ t u, news[t]? = some u → w.drew.cell? (A.add t) = some u) := by
    by_cases h : q = 0
    · refine ⟨⟨B, 0, none⟩, by rw [if_pos h], fun t u hu => ?_⟩
      have h0 : news.length = 0 := by rw [hlen]; omega
      rw [List.length_eq_zero_iff.1 h0] at hu
      simp at hu
    · refine ⟨⟨B, (i + 1) * 6, none⟩, by rw [if_neg h], fun t u hu => ?_⟩
      rw [Addr.add_lit]
      rw [hnews, List.getElem?_drop, List.getElem?_take] at hu
      split at hu
      · show w.cell? _ = _
        simpa [World.cell?, hg] using hu
      · cases hu
  obtain ⟨row1, hrow1⟩ : ∃ row1, row1 = (cur.toList.take (i * 6) ++ news ++ cur.toList.drop (i * 6 + news.length)).toArray := ⟨_, rfl⟩
  have hs1 : row1.size = (i + 1 + q) * 6 := by rw [hrow1]; simp; omega
  obtain ⟨W1, hW1⟩ : ∃ W1, W1 = w.drew.setRow B row1 := ⟨_, rfl⟩
  have happ : Hid (∀ ty, (Builtin.append_ #[87, 87] ty #[.slice (some ⟨B, 0, none⟩) i (i + 1 + q), .slice (some A) m q]).run Tryz.prog w.drew = .ok (.slice (some ⟨B, 0, none⟩) (i + m) (i + 1 + q)) W1) := by
    intro ty
    have := run_append_room (P := Tryz.prog) w.drew 87 ty 94 j0 Tryz.underlying87 hi0 B i (i + 1 + q) cur hg A m q news (by rw [hz1]; exact hlen) hsrc.out (by intro u hu; rw [hnews] at hu; exact hone u (List.mem_of_mem_drop hu)) (by omega) (by rw [hz1, hlen, hsz]; omega)
    rw [this, hz1, hW1, hrow1]
  have hg1 : W1.heap[B]? = some (.cells row1 94 (0, 0)) := by rw [hW1]; exact setRow_heap w.drew B cur row1 _ _ hg
  obtain ⟨c2, hc2⟩ : ∃ c2, i + 1 + q - (i + m) = c2 + 1 := ⟨q - m, by omega⟩
  obtain ⟨zs, hzl, hcl⟩ := clear_docs (W := W1) (B := B) (o := (i + m) * 6) (n := 0) (c := c2 + 1) hg1 (by rw [hs1]; omega)
  simp only [Nat.zero_add, Nat.one_mul] at hcl hzl
  obtain ⟨row2, hrow2⟩ : ∃ row2, row2 = (row1.toList.take ((i + m) * 6) ++ zs ++ row1.toList.drop ((i + m) * 6 + 6)).toArray := ⟨_, rfl⟩
  rw [← hrow2] at hcl
  have e1 : i + 1 + m - (i + m) = 1 := by omega
  have e2 : ¬ i + 1 + q = i + m := by omega
  have e3 : ¬ i + 1 + q ≤ i + m := by omega
  have e4 : i + m ≤ i + 1 + m := by omega
  have e5 : (i : Int) + (m : Int) ≤ (i : Int) + 1 + (m : Int) := by omega
  have e6 : (0 : Int) ≤ (i : Int) + 1 + (m : Int) := by omega
  have e7 : (0 : Int) ≤ (i : Int) + (m : Int) := by omega
  have S := (show Hid _ from And.intro hg1 (And.intro hs1 (And.intro hrow1 (And.intro hrow2 (And.intro hW1 (And.intro hnews (And.intro hlen (And.intro hzl hsz))))))))
  clear hg1 hs1 hrow1 hrow2 hW1 hnews hlen hzl hsrc hsz hone hi0 hz0 hz1 hz2
  go_enter Tryz.func42, Tryz.ntmps42
  go_wp2_with fail
  go_region_law (refine step_append_eq rfl (.tmp 22) (.tmp 25) 87 87 rfl _ _ (by simp [Act.eval, Act.put]) (by simp [Act.eval, Act.put]) _ _ (happ.out _) ?_)
  go_wp2
  go_ret
  obtain ⟨hg1, hs1, hrow1, hrow2, hW1, hnews, hlen, hzl, hsz⟩ := S.out
  have hl1 : (row1.toList.take ((i + m) * 6)).length = (i + m) * 6 := by simp; omega
  refine ⟨rfl, ⟨row2, setRow_heap W1 B row1 row2 _ _ hg1, ?_, ?_⟩, ?_⟩
  · rw [hrow2]; simp; omega
  · rw [hrow2, List.toList_toArray, List.append_assoc, List.take_append_of_le_length (by omega), List.take_of_length_le (by omega), hrow1, List.toList_toArray]
    have hl2 : (cur.toList.take (i * 6) ++ news).length = (i + m) * 6 := by simp; omega
    rw [List.take_append_of_le_length (by omega), List.take_of_length_le (by omega), hnews]
  · rw [hW1, setRow_setRow]
    exact ⟨rfl, rfl, rfl, by simp, fun k _ hk => setRow_other w.drew B k _ (fun e => hk (by rw [e]))⟩
/-- a record is taken out of a row. -/
theorem DeleteD_any (ds : List Dl) (base B c i : Nat) (w : World) (hone : ∀ u ∈ encDs ds, u.oneCell' = true) (h : w.ownsRow base 94 6 (.slice (some ⟨B, 0, none⟩) ds.length c) ds.length (encDs ds)) (hi : i < ds.length) :
    Calls Tryz.prog 42 #[.slice (some ⟨B, 0, none⟩) ds.length c, .int .i64 (i : Int), .int .i64 ((i : Int) + 1)] w
      fun e w' => e = .returned (.slice (some ⟨B, 0, none⟩) (ds.length - 1) c) ∧ w'.ownsRow base 94 6 (.slice (some ⟨B, 0, none⟩) (ds.length - 1) c) (ds.length - 1) (encDs (ds.take i ++ ds.drop (i + 1))) ∧ w.grownBy w' (some B) := by
  obtain ⟨b, c', cur, e, hb, hg, hc1, hc2, hs, ht, _⟩ := cells_of_row h (by omega)
  simp only [Value.slice.injEq, Option.some.injEq, Addr.mk.injEq, true_and, and_true] at e
  obtain ⟨rfl, rfl⟩ := e
  obtain ⟨m, hm⟩ : ∃ m, ds.length = i + 1 + m := ⟨ds.length - (i + 1), by omega⟩
  obtain ⟨q, hq⟩ : ∃ q, c = i + 1 + q := ⟨c - (i + 1), by omega⟩
  subst hq
  have hd := DeleteD_rows B i m q w cur hg (by omega) hs (by rw [← hm, ht]; exact hone) hc2
  rw [hm, show i + 1 + m - 1 = i + m by omega]
  refine hd.mono ?_
  rintro e w' ⟨rfl, ⟨cur', h1, h2, h3⟩, h4⟩
  refine ⟨rfl, ⟨by rw [encDs_append, ← encDs_take, ← encDs_drop]; simp [encDs_length]; omega, .inr ⟨B, _, cur', rfl, hb, h1, by omega, hc2, h2, ?_⟩⟩, h4⟩
  rw [h3, encDs_append, ← encDs_take, ← encDs_drop, ← hm, ht]
  congr 1
  rw [← ht, List.take_take]
  congr 1
  omega
end Go.Proofs.YtfpkkobclkdniaaGreatDoor

namespace Go.Proofs.YtfpkkobclkdniaaGreatDoor

/-- rows of elements of so many cells. -/
theorem flat_length {α : Type} {enc : α → List Value} {k : Nat} (h : ∀ a, (enc a).length = k) : ∀ l : List α, (l.flatMap enc).length = l.length * k
  | [] => by simp
  | a :: l => by
    rw [List.flatMap_cons, List.length_append, flat_length h l, h, List.length_cons, Nat.add_mul, Nat.one_mul, Nat.add_comm]
theorem flat_at {α : Type} {enc : α → List Value} {k : Nat} (h : ∀ a, (enc a).length = k) : ∀ (l : List α) (i j : Nat) (a : α) (u : Value), l[i]? = some a → (enc a)[j]? = some u → (l.flatMap enc)[i * k + j]? = some u
  | [], _, _, _, _, hi, _ => by simp at hi
  | x :: l, 0, j, a, u, hi, hu => by
    simp at hi; subst hi
    have : j < (enc x).length := (List.getElem?_eq_some_iff.1 hu).1
    rw [List.flatMap_cons, List.getElem?_append_left (by omega), Nat.zero_mul, Nat.zero_add]; exact hu
  | x :: l, i + 1, j, a, u, hi, hu => by
    have ih := flat_at h l i j a u (by simpa using hi) hu
    have hk := h x
    have e : (i + 1) * k + j - k = i * k + j := by rw [Nat.add_mul, Nat.one_mul]; omega
    rw [List.flatMap_cons, List.getElem?_append_right (by rw [hk, Nat.add_mul, Nat.one_mul]; omega), hk, e]
    exact ih
theorem flat_takeE {α : Type} {enc : α → List Value} {k : Nat} (h : ∀ a, (enc a).length = k) : ∀ (l : List α) (i : Nat), (l.flatMap enc).take (i * k) = (l.take i).flatMap enc
  | [], i => by simp
  | x :: l, 0 => by simp
  | x :: l, i + 1 => by
    have ih := flat_takeE h l i
    rw [List.take_succ_cons, List.flatMap_cons, List.flatMap_cons, show (i + 1) * k = (enc x).length + i * k by rw [h, Nat.add_mul, Nat.one_mul, Nat.add_comm], List.take_length_add_append, ih]
theorem flat_drop {α : Type} {enc : α → List Value} {k : Nat} (h : ∀ a, (enc a).length = k) : ∀ (l : List α) (i : Nat), (l.flatMap enc).drop (i * k) = (l.drop i).flatMap enc
  | [], i => by simp
  | x :: l, 0 => by simp
  | x :: l, i + 1 => by
    have ih := flat_drop h l i
    rw [List.drop_succ_cons, List.flatMap_cons, show (i + 1) * k = (enc x).length + i * k by rw [h, Nat.add_mul, Nat.one_mul, Nat.add_comm], List.drop_length_add_append, ih]
theorem flat_one {α : Type} {enc : α → List Value} (h : ∀ a, ∀ u ∈ enc a, u.oneCell' = true) (l : List α) : ∀ u ∈ l.flatMap enc, u.oneCell' = true := by
  intro u hu
  obtain ⟨a, _, ha⟩ := List.mem_flatMap.1 hu
  exact h a u ha

def encEn (e : En) : List Value := [.string e.1, .int .i64 e.2]
def encEns (l : List En) : List Value := l.flatMap encEn
theorem encEn_len (e : En) : (encEn e).length = 2 := rfl
theorem encEn_one : ∀ e, ∀ u ∈ encEn e, u.oneCell' = true := by
  intro e u hu
  simp only [encEn, List.mem_cons, List.not_mem_nil, or_false] at hu
  rcases hu with rfl | rfl <;> rfl
/-- what is told of a node: how deep, how many entries, a leaf. -/
abbrev Nt := Nat × Nat × Bool
def encNt (n : Nt) : List Value := [.int .i64 (n.1 : Int), .int .i64 (n.2.1 : Int), .bool n.2.2]
def encNts (l : List Nt) : List Value := l.flatMap encNt
theorem encNt_len (n : Nt) : (encNt n).length = 3 := rfl
theorem encNt_one : ∀ n, ∀ u ∈ encNt n, u.oneCell' = true := by
  intro e u hu
  simp only [encNt, List.mem_cons, List.not_mem_nil, or_false] at hu
  rcases hu with rfl | rfl | rfl <;> rfl
end Go.Proofs.YtfpkkobclkdniaaGreatDoor
