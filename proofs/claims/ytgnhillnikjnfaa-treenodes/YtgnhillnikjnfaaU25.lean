/-
  The law's awake by its contract: the document's examples. No conditions.
  Deeds on trees as they lie in memory, and one deed's change of entries. No conditions beyond those stated.
  What the rows of this seat share: deeds and entries that come in. No conditions beyond those stated.
-/
import Derived.Test.YtgnhillnikjnfaaU24
import Derived.Test.YtgnhillnikjnfaaU22
import Derived.Test.YtgnhillnikjnfaaU7
import Derived.Test.YtgnhillnikjnfaaRows
import Derived.WalkKit
import Derived.ProofKit
import Derived.OpenShut
import Derived.ShutString
import Derived.Carry
import Derived.LaidLaws
import Derived.Deep.DeepHandedRow
import Derived.Deep.Strs
import Derived.PinnedBridge
namespace Go.Proofs.Ytgnhillnikjnfaa
open Go.RowKit

/-- so many entries of one key. -/
def upto (K : ByteArray) (j : Nat) : List En := (List.range j).map fun (i : Nat) => (K, (i : Int) + 1)
theorem upto_len (K : ByteArray) (j : Nat) : (upto K j).length = j := by simp [upto]
theorem ins_snoc {e : En} : ∀ {l : List En}, (∀ x ∈ l, cmpE x e < 0) → insE e l = l ++ [e]
  | [], _ => rfl
  | x :: l, h => by
    have h1 := h x (by simp)
    rw [ins_cons, if_neg (ltE_ne h1), if_neg (ltE_asymm h1), ins_snoc fun y hy => h y (List.mem_cons_of_mem _ hy)]
    rfl
theorem upto_lt (K : ByteArray) (j : Nat) : ∀ x ∈ upto K j, cmpE x (K, (j : Int) + 1) < 0 := by
  intro x hx
  simp only [upto, List.mem_map, List.mem_range] at hx
  obtain ⟨i, hi, rfl⟩ := hx
  unfold cmpE cmpI
  simp only [good_cmpT.refl, if_true]
  rw [if_pos (by omega)]
  decide
theorem upto_ins (K : ByteArray) (j : Nat) : insE (K, (j : Int) + 1) (upto K j) = upto K (j + 1) := by
  rw [ins_snoc (upto_lt K j)]
  simp [upto, List.range_succ]
theorem upto_has (K : ByteArray) (j : Nat) : hasE (K, (j : Int) + 1) (upto K j) = false := by
  rw [← Bool.not_eq_true, hasE_iff]
  exact fun h => ltE_irrefl (upto_lt K j _ h)
theorem sum_ge {f : Nd → Nat} {c : Nat} : ∀ {l : List Nd}, (∀ k ∈ l, c ≤ f k) → c * l.length ≤ (l.map f).sum
  | [], _ => by simp
  | k :: l, h => by
    have h1 := h k (by simp)
    have h2 := sum_ge (l := l) fun x hx => h x (List.mem_cons_of_mem _ hx)
    simp only [List.map_cons, List.sum_cons, List.length_cons, Nat.mul_add]
    omega
theorem nodes_five {n : Nat} {t : Nd} (h : TopN n t) (hl : (flatN n t).length = 5) : nodesN n 1 t = [(1, 1, false), (2, 2, true), (2, 2, true)] := by
  obtain ⟨hw, h4, h1⟩ := h
  match n, hw, hl, h1 with
  | 0, _, hl, _ => have : t.es.length = 5 := hl; omega
  | 1, hw, hl, h1 =>
    rw [len_flat hw] at hl
    have hk := sum_ge (l := t.kids) (f := fun k => (flatN 0 k).length) (c := 2) fun k hk => (hw.2 k hk).2.1
    have h2 := hw.1
    have h3 : t.es.length = 1 := by omega
    rw [h3] at h2
    match hks : t.kids, h2 with
    | [a, b], _ =>
      have ha := (hw.2 a (by rw [hks]; simp)).2.1
      have hb := (hw.2 b (by rw [hks]; simp)).2.1
      rw [hks] at hl
      have hs : t.es.length + (a.es.length + b.es.length) = 5 := by simpa [flatN] using hl
      have ha2 : a.es.length = 2 := by omega
      have hb2 : b.es.length = 2 := by omega
      simp [nodesN, hks, h3, ha2, hb2]
  | n + 2, hw, hl, h1 =>
    rw [len_flat hw] at hl
    have hk := sum_ge (l := t.kids) (f := fun k => (flatN (n + 1) k).length) (c := 4) fun k hk => by
      have hkw := hw.2 k hk
      have h5 := nodes_le (n + 1) 1 k hkw.1 (by omega)
      have h6 := sum_ge (l := k.kids) (f := fun k => (nodesN n 2 k).length) (c := 1) fun x _ => nodes_pos n 2 x
      have h7 : (nodesN (n + 1) 1 k).length = (k.kids.map fun k => (nodesN n 2 k).length).sum + 1 := by simp only [nodesN, List.length_cons, List.length_flatMap]
      have h8 := hkw.1.1
      omega
    have h2 := hw.1
    have h3 : 1 ≤ t.es.length := by omega
    omega
set_option maxRecDepth 100000 in
set_option maxHeartbeats 4000000 in
theorem awake_any (w : World) : Calls Try.prog 10 #[] w fun r w' => r = .returned (.bool true) ∧ Below w.heap.size w w' := by
  have hnew := New_any w
  have HN := (show Hid _ from hnew)
  clear hnew
  go_enter Try.func10, Try.ntmps10
  go_wp2_with fail
  refine Calls.mono HN.out ?_
  rintro e w1 ⟨T, rfl, ht1, hb1⟩
  have G1 := (show Hid _ from And.intro ht1 hb1)
  clear ht1 hb1 HN
  go_wp2
  go_loopg [2] 5 (fun gg iv wr => ∃ j : Nat, j ≤ 5 ∧ 5 - j ≤ gg ∧ iv = .int .i64 ((j : Int) + 1) ∧ Aside (TrF (fun a => w.heap.size ≤ a) wr T (upto ⟨#[97]⟩ j) ∧ Below w.heap.size w wr))
  case atStart => exact ⟨0, by omega, by omega, rfl, G1.out⟩
  case round =>
    obtain ⟨j, hj5, hgg, rfl, HR⟩ := hrel
    have HQ := (show Hid _ from HR.out)
    clear HR
    by_cases hj : j < 5
    · have hadd := AddT_any (⟨#[97]⟩, (j : Int) + 1) wr HQ.out.1 (by rw [upto_len]; omega)
      rw [upto_ins, upto_has] at hadd
      have HA := (show Hid _ from hadd)
      have zj : (j : Int) + 1 ≤ 5 := by omega
      clear hadd
      go_wp2_with fail
      refine Calls.mono HA.out ?_
      rintro e w2 ⟨rfl, ht2, hb2⟩
      have G2 := (show Hid _ from And.intro ht2 hb2)
      clear ht2 hb2 HA
      go_wp2
      go_roundg (5 - (j + 1))
      case measure => omega
      case rel =>
        have hsz := HQ.out.2.size
        refine ⟨j + 1, by omega, by omega, by simp, G2.out.1.mono fun a ha => ha.elim id (fun h => Nat.le_trans hsz h), HQ.out.2.trans (G2.out.2.below hsz fun a ha => ha)⟩
    · obtain rfl : 5 = j := by omega
      clear hgg hj hj5
      obtain ⟨ht, hb⟩ := HQ.out
      obtain ⟨n, t, htop, hf, hnodes⟩ := NodesT_any wr ht (by rw [upto_len]; omega)
      rw [nodes_five htop (by rw [hf, upto_len])] at hnodes
      have hafter := fun (W : World) (hb : Below wr.heap.size wr W) => AfterT_any (⟨#[97]⟩, 2) W (ht.below hb)
      have hlen := fun (W : World) (hb : Below wr.heap.size wr W) => LenT_any W (ht.below hb)
      rw [after_at (i := 1) ht.sort (by rfl)] at hafter
      rw [show retO ((upto ⟨#[97]⟩ 5)[1 + 1]?) = .tuple #[.agg #[.string ⟨#[97]⟩, .int .i64 3], .bool true] from rfl] at hafter
      rw [upto_len] at hlen
      have HN := (show Hid _ from hnodes)
      have HA := (show Hid _ from hafter)
      have HL := (show Hid _ from hlen)
      have zj : ¬ ((5 : Nat) : Int) + 1 ≤ 5 := by omega
      clear ht hb htop hf hnodes hafter hlen
      go_wp2_with fail
      refine Calls.mono HN.out ?_
      rintro e w2 ⟨v2, rfl, hr2, hb2⟩
      obtain ⟨B, c, rfl, hc1, hc2, -⟩ := row_node (j := 0) hr2 rfl
      have G2 := (show Hid _ from And.intro hr2 hb2)
      clear hr2 hb2 HN
      go_wp2_with fail
      refine Calls.mono (HA.out _ G2.out.2) ?_
      rintro e w3 ⟨rfl, hb3⟩
      obtain ⟨W4, hW4, hb4, hs4, k0, k1⟩ := box_any w3 ⟨#[97]⟩ 3
      have hb34 : Below w2.heap.size w2 W4 := hb3.trans (hb4.mono hb3.size)
      have hr4 := own_keep (W' := W4) G2.out.1 fun a ha => hb34.block a (own_lt G2.out.1 ha)
      obtain ⟨B', c', hv, -, -, e0, e1, e2, -⟩ := row_node (j := 0) hr4 rfl
      obtain ⟨B'', c'', hv', -, -, d0, d1, d2, -⟩ := row_node (j := 1) hr4 rfl
      obtain ⟨rfl, rfl⟩ : B = B' ∧ c = c' := by
        simp only [Value.slice.injEq, Option.some.injEq, Addr.mk.injEq, true_and, and_true] at hv; exact hv
      obtain ⟨rfl, rfl⟩ : B = B'' ∧ c = c'' := by
        simp only [Value.slice.injEq, Option.some.injEq, Addr.mk.injEq, true_and, and_true] at hv'; exact hv'
      dsimp only at e0 e1 e2 d0 d1 d2
      have G4 := (show Hid _ from G2.out.2.trans (hb34.mono G2.out.2.size))
      clear hv hv' hr4 hb34 hb3 hb4 HA
      go_wp2_with fail
      refine Calls.mono (HL.out _ G4.out) ?_
      rintro e w5 ⟨rfl, hw5⟩
      subst hw5
      go_wp2
      go_ret
      exact ⟨rfl, HQ.out.2.trans (G4.out.mono HQ.out.2.size)⟩
end Go.Proofs.Ytgnhillnikjnfaa

namespace Go.Proofs.Ytgnhillnikjnfaa
open Go.RowKit

/-- a deed: its kind, its key, its number. -/
structure Ac where
  kind : Int
  key : Int
  id : Int
def Ac.ent (e : Ac) : En := entA e.key e.id
def Ac.ok (e : Ac) : Prop := 0 ≤ e.kind ∧ e.kind < 256 ∧ 0 ≤ e.key ∧ e.key < 256 ∧ 0 ≤ e.id ∧ e.id < 256
def ActsAt (W : World) (s : Value) (acts : List Ac) : Prop :=
  ∃ (a : Option Addr) (cap : Nat), s = .slice a acts.length cap ∧ acts.length ≤ cap ∧ cap ≤ 9223372036854775807 ∧ (∀ e ∈ acts, e.ok) ∧
    (acts ≠ [] → ∃ b o, a = some ⟨b, o, none⟩ ∧ ∀ (j : Nat) (e : Ac), acts[j]? = some e → W.cell? ⟨b, o + j * 3, none⟩ = some (.int .u8 e.kind) ∧ W.cell? ⟨b, o + j * 3 + 1, none⟩ = some (.int .u8 e.key) ∧ W.cell? ⟨b, o + j * 3 + 2, none⟩ = some (.int .u8 e.id))
theorem ActsAt.below {W W' : World} {s : Value} {acts : List Ac} (h : ActsAt W s acts) (hb : Below W.heap.size W W') : ActsAt W' s acts := by
  obtain ⟨a, cap, h1, h2, h3, h4, h5⟩ := h
  refine ⟨a, cap, h1, h2, h3, h4, fun hne => ?_⟩
  obtain ⟨b, o, h6, h7⟩ := h5 hne
  exact ⟨b, o, h6, fun j e hj => by
    obtain ⟨c1, c2, c3⟩ := h7 j e hj
    exact ⟨(hb.cell (lt_of_cell c1)).trans c1, (hb.cell (lt_of_cell c2)).trans c2, (hb.cell (lt_of_cell c3)).trans c3⟩⟩
theorem ActsAt.slice {W : World} {s : Value} {acts : List Ac} (h : ActsAt W s acts) : ∃ a cap, s = .slice a acts.length cap ∧ acts.length ≤ cap ∧ cap ≤ 9223372036854775807 := by
  obtain ⟨a, cap, h1, h2, h3, _⟩ := h
  exact ⟨a, cap, h1, h2, h3⟩
theorem ActsAt.take {W : World} {a : Option Addr} {n cap : Nat} {acts : List Ac} (h : ActsAt W (.slice a n cap) acts) (m : Nat) : ActsAt W (.slice a (min m acts.length) cap) (acts.take m) := by
  obtain ⟨a', cap', h1, h2, h3, h4, h5⟩ := h
  simp only [Value.slice.injEq] at h1
  refine ⟨a, cap, by rw [List.length_take], by rw [List.length_take]; omega, by omega, fun e he => h4 e (List.mem_of_mem_take he), fun hne => ?_⟩
  obtain ⟨b, o, h6, h7⟩ := h5 (fun e => hne (by rw [e]; simp))
  refine ⟨b, o, h1.1.trans h6, fun j e hj => h7 j e ?_⟩
  rw [List.getElem?_take] at hj
  split at hj
  · exact hj
  · cases hj
/-- the deed at a place. -/
theorem ActsAt.at {W : World} {a : Option Addr} {n cap : Nat} {acts : List Ac} (h : ActsAt W (.slice a n cap) acts) {j : Nat} {e : Ac} (hj : acts[j]? = some e) :
    ∃ b o, a = some ⟨b, o, none⟩ ∧ e.ok ∧ W.cell? ⟨b, o + j * 3, none⟩ = some (.int .u8 e.kind) ∧ W.cell? ⟨b, o + j * 3 + 1, none⟩ = some (.int .u8 e.key) ∧ W.cell? ⟨b, o + j * 3 + 2, none⟩ = some (.int .u8 e.id) := by
  obtain ⟨a', cap', h1, h2, h3, h4, h5⟩ := h
  have k1 := h4 e (List.mem_of_getElem? hj)
  obtain ⟨b, o, h6, h7⟩ := h5 (fun e => by rw [e] at hj; simp at hj)
  obtain ⟨c1, c2, c3⟩ := h7 j e hj
  simp only [Value.slice.injEq] at h1
  exact ⟨b, o, h1.1.trans h6, k1, c1, c2, c3⟩
/-- a deed in a block of its own. -/
theorem boxA_any (w : World) (k y i : Int) : ∃ W0, w.alloc (.cells #[.int .u8 k, .int .u8 y, .int .u8 i] 28) = W0 ∧ Below w.heap.size w W0 ∧ W0.heap.size = w.heap.size + 1 ∧ W0.cell? ⟨w.heap.size, 0, none⟩ = some (.int .u8 k) ∧ W0.cell? ⟨w.heap.size, 1, none⟩ = some (.int .u8 y) ∧ W0.cell? ⟨w.heap.size, 2, none⟩ = some (.int .u8 i) := by
  obtain ⟨W0, hW0⟩ : ∃ W0, w.alloc (.cells #[.int .u8 k, .int .u8 y, .int .u8 i] 28) = W0 := ⟨_, rfl⟩
  have r0 : W0.heap[w.heap.size]? = some (.cells #[.int .u8 k, .int .u8 y, .int .u8 i] 28 (0, 0)) := by rw [← hW0]; exact heap_alloc_new _ _
  refine ⟨W0, hW0, by rw [← hW0]; exact (Below.refl _ _).alloc (Nat.le_refl _) _, by rw [← hW0]; simp, ?_, ?_, ?_⟩
  · simp [World.cell?, r0]
  · simp [World.cell?, r0]
  · simp [World.cell?, r0]
theorem Ent_any (e : Ac) (h : e.ok) (w : World) : Calls Try.prog 12 #[.agg #[.int .u8 e.kind, .int .u8 e.key, .int .u8 e.id]] w fun r w' => r = .returned (.agg #[.string e.ent.1, .int .i64 e.ent.2]) ∧ Below w.heap.size w w' :=
  Entry_any e.kind e.key e.id ⟨h.2.2.1, h.2.2.2.1⟩ ⟨h.2.2.2.2.1, h.2.2.2.2.2⟩ w
/-- the entries behind a deed. -/
def stepA (l : List En) (e : Ac) : List En := withL e.ent (!decide (e.kind < 140)) l
theorem stepA_add {l : List En} {e : Ac} (h : e.kind < 140) : stepA l e = insE e.ent l := by unfold stepA insE; rw [decide_eq_true h]; rfl
theorem stepA_del {l : List En} {e : Ac} (h : ¬ e.kind < 140) : stepA l e = delE e.ent l := by unfold stepA delE; rw [decide_eq_false h]; rfl
theorem len_withT (e : En) : ∀ l : List En, (withL e true l).length ≤ l.length
  | [] => by simp [withL]
  | x :: l => by
    have h2 := len_withT e l
    rw [withL]
    split
    · rw [List.length_cons]; omega
    · rw [if_neg (fun h => by cases h.1)]
      simp only [List.length_cons]; omega
theorem len_with (e : En) : ∀ (p : Bool) (l : List En), (withL e p l).length ≤ l.length + 1
  | true, l => Nat.le_succ_of_le (len_withT e l)
  | false, [] => by simp [withL]
  | false, x :: l => by
    have h1 := len_with e false l
    have h2 := len_withT e l
    rw [withL]
    split
    · rw [List.length_cons]; omega
    · split
      · simp only [List.length_cons]; omega
      · simp only [List.length_cons]; omega
/-- a tree that is all new since. -/
abbrev Tree (w0 w : World) (T : Nat) (l : List En) : Prop := TrF (fun a => w0.heap.size ≤ a) w T l ∧ Below w0.heap.size w0 w
theorem Tree.same {w0 w w' : World} {T : Nat} {l : List En} (h : Tree w0 w T l) (hb : Below w.heap.size w w') : Tree w0 w' T l := ⟨h.1.below hb, h.2.trans (hb.mono h.2.size)⟩
theorem Tree.step {w0 w w' : World} {T : Nat} {l l' : List En} (h : Tree w0 w T l) (ht : TrF (fun a => w0.heap.size ≤ a ∨ w.heap.size ≤ a) w' T l') (hf : Far (fun a => w0.heap.size ≤ a) w w') : Tree w0 w' T l' :=
  ⟨ht.mono fun _a ha => ha.elim id (fun h2 => Nat.le_trans h.2.size h2), h.2.trans (hf.below h.2.size fun _a ha => ha)⟩
end Go.Proofs.Ytgnhillnikjnfaa

namespace Go.Proofs.Ytgnhillnikjnfaa
open Go.RowKit

theorem own : ownKnob Try.prog.godebug = none := by kernel_rfl
theorem laidOut : laidOutB Try.prog = true := by kernel_rfl
theorem cellsStr : Try.prog.cellsOf 9 = 1 := by kernel_rfl
theorem cellsU8 : Try.prog.cellsOf 5 = 1 := by kernel_rfl
theorem cellsI64 : Try.prog.cellsOf 2 = 1 := by kernel_rfl
theorem cellsAct : Try.prog.cellsOf 28 = 3 := by kernel_rfl
theorem cellsEn : Try.prog.cellsOf 30 = 2 := by kernel_rfl
theorem u8_range {z : Int} (hw : (Lit.int .u8 z).wf = true) : 0 ≤ z ∧ z < 256 := by
  have h1 : IntKind.u8.min = 0 := rfl
  have h2 : IntKind.u8.max = 255 := rfl
  simp only [Lit.wf, Bool.and_eq_true, decide_eq_true_eq] at hw
  omega

theorem u16_range {z : Int} (hw : (Lit.int .u16 z).wf = true) : 0 ≤ z ∧ z < 65536 := by
  have h1 : IntKind.u16.min = 0 := rfl
  have h2 : IntKind.u16.max = 65535 := rfl
  simp only [Lit.wf, Bool.and_eq_true, decide_eq_true_eq] at hw
  omega

open Go.ChangeShapes Go.WideShapes Go.ChangeAt in
/-- a deed by its cells. -/
theorem act_of_cells {H : Type} {enc : TypeId × Value → H} {W : World} {fuel : Nat} {cs : List Value} {x : DataW H × List MemPlace} (hlen : cs.length = 3) (h2 : DataW.trod enc Try.prog W 0 (fun _ => true) true fuel 28 cs = some x) : ∃ e : Ac, e.ok ∧ cs = [.int .u8 e.kind, .int .u8 e.key, .int .u8 e.id] := by
  obtain ⟨y0, y1, y2, n', _, _, g0, g1, g2⟩ := Go.Deep.trod_struct3 Try.underlying28 h2
  match cs, hlen with
  | [u0, u1, u2], _ =>
    simp [cellsU8] at g0 g1 g2
    obtain ⟨k, hk, _, wk⟩ := DataW.trod_int Try.underlying5 g0
    obtain ⟨q, hq, _, wq⟩ := DataW.trod_int Try.underlying5 g1
    obtain ⟨r, hr, _, wr⟩ := DataW.trod_int Try.underlying5 g2
    simp only [List.cons.injEq, and_true] at hk hq hr
    subst hk hq hr
    exact ⟨⟨k, q, r⟩, ⟨(u8_range wk).1, (u8_range wk).2, (u8_range wq).1, (u8_range wq).2, (u8_range wr).1, (u8_range wr).2⟩, rfl⟩
open Go.ChangeShapes Go.WideShapes Go.ChangeAt in
/-- an entry by its cells. -/
theorem entry_of_cells {H : Type} {enc : TypeId × Value → H} {W : World} {fuel : Nat} {cs : List Value} {x : DataW H × List MemPlace} (hlen : cs.length = 2) (h2 : DataW.trod enc Try.prog W 0 (fun _ => true) true fuel 30 cs = some x) : ∃ (k : ByteArray) (i : Int), cs = [.string k, .int .i64 i] := by
  obtain ⟨y0, y1, n', _, _, g0, g1⟩ := trod_struct2 Try.underlying30 h2
  match cs, hlen with
  | [u0, u1], _ =>
    simp [cellsStr, cellsI64] at g0 g1
    obtain ⟨k, hk, _, _⟩ := DataW.trod_string Try.underlying9 g0
    obtain ⟨q, hq, _, _⟩ := DataW.trod_int Try.underlying2 g1
    simp only [List.cons.injEq, and_true] at hk hq
    subst hk hq
    exact ⟨k, q, rfl⟩
open Go.ChangeShapes Go.WideShapes Go.ChangeAt in
/-- a deed that came in. -/
theorem open_act {H : Type} {enc : TypeId × Value → H} {W : World} {base : Nat} {v : Value} {d : DataW H} {p : List MemPlace} (hval : Value.okWide Try.prog W .any base 28 v) (h : DataW.Trod enc Try.prog W 0 (fun _ => true) true 28 v d p) : ∃ e : Ac, e.ok ∧ v = .agg #[.int .u8 e.kind, .int .u8 e.key, .int .u8 e.id] := by
  obtain ⟨cs, rfl, hsz⟩ := okWide_struct Try.underlying28 hval
  obtain ⟨fuel, hf⟩ := h
  obtain ⟨e, h1, h2⟩ := act_of_cells (cs := cs.toList) (by rw [Array.length_toList, hsz]; exact cellsAct) hf
  exact ⟨e, h1, by simpa using congrArg (fun l => Value.agg l.toArray) h2⟩
open Go.ChangeShapes Go.WideShapes Go.ChangeAt in
/-- an entry that came in. -/
theorem open_entry {H : Type} {enc : TypeId × Value → H} {W : World} {base : Nat} {v : Value} {d : DataW H} {p : List MemPlace} (hval : Value.okWide Try.prog W .any base 30 v) (h : DataW.Trod enc Try.prog W 0 (fun _ => true) true 30 v d p) : ∃ (k : ByteArray) (i : Int), v = .agg #[.string k, .int .i64 i] := by
  obtain ⟨cs, rfl, hsz⟩ := okWide_struct Try.underlying30 hval
  obtain ⟨fuel, hf⟩ := h
  obtain ⟨k, i, h2⟩ := entry_of_cells (cs := cs.toList) (by rw [Array.length_toList, hsz]; exact cellsEn) hf
  exact ⟨k, i, by simpa using congrArg (fun l => Value.agg l.toArray) h2⟩
open Go.ChangeShapes Go.WideShapes Go.ChangeAt in
/-- a slice of deeds that came in. -/
theorem open_acts {H : Type} {enc : TypeId × Value → H} {W : World} {base : Nat} {v : Value} {d : DataW H} {p : List MemPlace} (hval : Value.okWide Try.prog W .any base 22 v) (h : DataW.Trod enc Try.prog W 0 (fun _ => true) true 22 v d p) : ∃ acts, ActsAt W v acts := by
  obtain ⟨a1, len, cap, rfl⟩ := okWide_slice Try.underlying22 hval
  obtain ⟨fuel, hf⟩ := h
  rcases Go.Deep.open_slice Try.underlying22 hf with ⟨hcs, hx⟩ | ⟨a, len', cap', m, n, D, Pl, hcs, hb, hl, hm, hmm, hx, hel⟩
  · simp [Value.cells] at hcs
    obtain ⟨rfl, rfl, rfl⟩ := hcs
    exact ⟨[], none, 0, rfl, Nat.le_refl _, by omega, fun e he => (by cases he), fun h => absurd rfl h⟩
  · simp [Value.cells] at hcs
    obtain ⟨rfl, rfl, rfl⟩ := hcs
    simp only [if_true] at hmm
    subst hmm
    have each : ∀ i, i < m → ∃ e : Ac, e.ok ∧ W.cell? (a.add (i * 3)) = some (.int .u8 e.kind) ∧ W.cell? (a.add (i * 3 + 1)) = some (.int .u8 e.key) ∧ W.cell? (a.add (i * 3 + 2)) = some (.int .u8 e.id) := by
      intro i hi
      obtain ⟨cs', h1, h2⟩ := hel i hi
      rw [cellsAct] at h1
      obtain ⟨_, hlen, hcell⟩ := World.cells?_some h1
      obtain ⟨e, hok, rfl⟩ := act_of_cells hlen h2
      have e0 := hcell 0 (by omega)
      have e1 := hcell 1 (by omega)
      have e2 := hcell 2 (by omega)
      rw [Go.Deep.add_add] at e0 e1 e2
      exact ⟨e, hok, by simpa using e0, by simpa using e1, by simpa using e2⟩
    obtain ⟨f, hf2⟩ : ∃ f : Nat → Ac, ∀ i, i < m → (f i).ok ∧ W.cell? (a.add (i * 3)) = some (.int .u8 (f i).kind) ∧ W.cell? (a.add (i * 3 + 1)) = some (.int .u8 (f i).key) ∧ W.cell? (a.add (i * 3 + 2)) = some (.int .u8 (f i).id) := by
      refine ⟨fun i => if h : i < m then (each i h).choose else ⟨0, 0, 0⟩, fun i hi => ?_⟩
      simp only [dif_pos hi]
      exact (each i hi).choose_spec
    have hlen : ((List.range len).map f).length = len := by simp
    refine ⟨(List.range len).map f, some a, m, by rw [hlen], by rw [hlen]; exact hl, by unfold maxLen at hm; omega, fun e he => ?_, fun hne => ?_⟩
    · obtain ⟨i, hi, rfl⟩ := List.mem_map.1 he
      exact (hf2 i (by have := List.mem_range.1 hi; omega)).1
    · have h0 : 0 < len := by
        rcases Nat.eq_zero_or_pos len with h | h
        · exact absurd (by rw [h]; rfl) hne
        · exact h
      obtain ⟨ab, ao, spot⟩ := a
      have hspot : spot = none := by simpa [Addr.add] using World.cell?_spot (hf2 0 (by omega)).2.1
      subst hspot
      refine ⟨ab, ao, rfl, fun j e hj => ?_⟩
      have hjl : j < len := by rw [← hlen]; exact (List.getElem?_eq_some_iff.1 hj).1
      rw [List.getElem?_map, List.getElem?_range hjl] at hj
      simp only [Option.map_some, Option.some.injEq] at hj
      subst hj
      obtain ⟨_, k0, k1, k2⟩ := hf2 j (by omega)
      rw [Addr.add_lit] at k0 k1 k2
      exact ⟨k0, by rw [Nat.add_assoc]; exact k1, by rw [Nat.add_assoc]; exact k2⟩
end Go.Proofs.Ytgnhillnikjnfaa
