/-
  The law's Of by its contract: the entries of a map of records. Conditions: as stated.
  The law's awake: the document's examples. No conditions beyond those stated.
  The law's awake: the document's examples. No conditions beyond those stated.
  A description that the law makes, by all that is asked of it. No conditions beyond those stated.
  What the rows of this seat share: the listed variables' cells. No conditions beyond those stated.
  A world that lays the listed variables' cells: for the laws of values; slices of bytes that come in. No conditions.
-/
import Derived.Test.YtfpkkobclkdniaaGreatDoorU8
import Derived.Test.YtfpkkobclkdniaaGreatDoorU18
import Derived.Test.YtfpkkobclkdniaaGreatDoorU19
import Derived.Test.YtfpkkobclkdniaaGreatDoorU23
import Derived.Test.YtfpkkobclkdniaaGreatDoorU17
import Derived.Test.YtfpkkobclkdniaaGreatDoorU11
import Derived.Test.YtfpkkobclkdniaaGreatDoorU10
import Derived.Shelf.Vars
import Derived.Test.YtfpkkobclkdniaaGreatDoorCards
import Derived.Test.YtfpkkobclkdniaaGreatDoorTie
import Derived.ProofKit
import Derived.OpenShut
import Derived.Carry
import Derived.LaidHandle
import Derived.LaidLaws
import Derived.Deep.DeepHandedRow
import Derived.Lib.LaidTab
import Derived.Lib.LaidU8T
import Derived.PinnedBridge
import Derived.Test.YtfpkkobclkdniaaGreatDoorU12
namespace Go.Proofs.YtfpkkobclkdniaaGreatDoor
open Go.RowKit

set_option maxRecDepth 100000 in
set_option maxHeartbeats 16000000 in
theorem LOf_any {M N : Nat} {g : Int → Option Mv} {rs : List Rec} {lo : Int} (n : Int) (name : ByteArray) (u : Bool) (w : World) (hm : MapOn mkV w M N g rs.length) (hg : Lp w g rs) (hr : RisesR lo rs) (hn : ∀ r ∈ rs, Nice 3 r.2) (hl : rs.length ≤ 1000) :
    Calls Tryz.prog 23 #[.agg #[.string name, .string (specPath n), .bool u], .map (some M)] w fun e w' => ∃ v, e = .returned v ∧ OwE w w.heap.size v (ofP (specParts n) rs) w' := by
  have hkey := fun (v : V) (l f : Value) (W : World) (hL : Lies 3 W v l f) (hN : Nice 3 v) => LKey_any 3 n name u v l f W hL hN
  obtain ⟨path, hpath⟩ : ∃ p, specPath n = p := ⟨_, rfl⟩
  obtain ⟨ps, hps⟩ : ∃ ps, specParts n = ps := ⟨_, rfl⟩
  rw [hpath] at hkey ⊢
  rw [hps] at hkey ⊢
  clear hpath hps
  obtain ⟨W, hW⟩ : ∃ W, w.alloc (.cells #[.string name, .string path, .bool u] 23) = W := ⟨_, rfl⟩
  have hB : Below w.heap.size w W := by rw [← hW]; exact (Below.refl _ _).alloc (Nat.le_refl _) _
  have r0 : W.heap[w.heap.size]? = some (.cells #[.string name, .string path, .bool u] 23) := by rw [← hW]; exact heap_alloc_new _ _
  have hmW : MapOn mkV W M N g rs.length := map_kept hm (below_kept hB)
  have HH := (show Hid _ from And.intro hB (And.intro r0 (And.intro (hg.kept (below_kept hB)) (And.intro hr (And.intro hn hkey)))))
  clear hB r0 hm hg hr hn hkey
  go_enter Tryz.func23, Tryz.ntmps23
  go_wp2_with (first | (at_range; (try rw [hW]); clear hW; refine wpList_mrange rfl _ 47 rfl 40 Tryz.underlying47 M N g rs.length rfl hmW ?_; intro w6 hr6 hg6 hz6) | fail)
  go_frame
  have H6 := (show Hid _ from And.intro hr6 (And.intro hg6 hz6))
  clear hr6 hg6 hz6 hmW
  go_loopg [5, 6, 7, 8, 9] rs.length (fun gg s5 _ _ _ _ wq => ∃ (left : Int → Bool) (cnt : Nat) (l : List En) (oa : Option Addr) (ln oc : Nat), cnt ≤ gg ∧ s5 = .slice oa ln oc ∧ Aside (ln = l.length ∧ RangeOn mkV wq M W.heap.size N g rs.length left cnt ∧ OnL ps rs left l ∧ OwE W (W.heap.size + 1) (.slice oa ln oc) l wq ∧ l.length + cnt ≤ rs.length))
  case atStart =>
    refine ⟨_, rs.length, [], none, 0, 0, Nat.le_refl _, rfl, rfl, H6.out.1, OnL.start fun i h => (by rw [HH.out.2.2.1.isSome]; exact h), OwE.nil ⟨H6.out.2.1.os, H6.out.2.1.tape, H6.out.2.1.output, by have := H6.out.2.2; omega, fun b hb => H6.out.2.1.block b hb (by simp)⟩ (Nat.le_succ _), by simp⟩
  case round =>
    obtain ⟨left, cnt, l, oa, ln, oc, hcnt, rfl, A⟩ := hrel
    have hrg : RangeOn mkV wr M W.heap.size N g rs.length left cnt := A.out.2.1
    go_wp2_with (first | (at_next; refine wpList_mnext rfl _ rfl M W.heap.size N g rs.length left cnt rfl hrg ?_ ?_) | fail)
    · intro hl0
      have HL := (show Hid _ from hl0)
      clear hl0 hrg
      go_wp2
      go_ret
      obtain ⟨rfl, -, hon, how, -⟩ := A.out
      obtain ⟨hB, r0, hg, hr, hn, hkey⟩ := HH.out
      have e := hon.over hr HL.out
      subst e
      exact ⟨_, rfl, hB.trans (how.below.mono hB.size), own_baseI how.own (Nat.le_succ_of_le hB.size), Nat.le_refl _⟩
    · intro i v w7 cnt7 hwf hgi hli hr7 hlt7 hg7 hs7 hen
      obtain ⟨v, ual, ucl, uaf, ucf⟩ := v
      have hen' : (Instr.entry (.pointer (some ⟨W.heap.size, 0, none⟩))).run Tryz.prog w7 = .ok (.tuple #[.int .i64 i, .agg #[.int .i64 v.kind, .int .i64 v.num, .string v.text, .slice ual v.list.length ucl, .slice uaf v.fields.length ucf]]) w7 := hen
      obtain ⟨hln, -, hon, how, hlen⟩ := A.out
      obtain ⟨hB, r0, hg, hr, hn, hkey⟩ := HH.out
      have hb7 : Below W.heap.size W w7 := how.below.grown hg7 how.below.size (fun kk e => by cases e; exact Nat.le_refl _)
      have how7 : OwE W (W.heap.size + 1) (.slice oa ln oc) l w7 := ⟨hb7, own_keep how.own fun a ha => hg7.block a (own_lt how.own ha) (fun e => by
        have := (how.own.lt a (vc_ne ha)).1
        cases e
        omega), how.le⟩
      have hgr : getR i rs = some v := by have := (hg i).1; rw [hgi] at this; exact this.symm
      have hN : Nice 3 v := nice_get hn hgr
      obtain ⟨W8, hW8⟩ : ∃ W8, w7.alloc (.cells #[.int .i64 v.kind, .int .i64 v.num, .string v.text, .slice ual v.list.length ucl, .slice uaf v.fields.length ucf] 40) = W8 := ⟨_, rfl⟩
      have hB8 : Below w7.heap.size w7 W8 := by rw [← hW8]; exact (Below.refl _ _).alloc (Nat.le_refl _) _
      have r8 : W8.heap[w7.heap.size]? = some (.cells #[.int .i64 v.kind, .int .i64 v.num, .string v.text, .slice ual v.list.length ucl, .slice uaf v.fields.length ucf] 40) := by rw [← hW8]; exact heap_alloc_new _ _
      have hb8 := hb7.trans (hB8.mono hb7.size)
      have hu8 : Lies 3 W8 v (.slice ual v.list.length ucl) (.slice uaf v.fields.length ucf) := ((hg i).2 _ hgi).below hb8
      have s8 := (hb8.block _ (lt_of_heap r0)).trans r0
      obtain ⟨a0, a1, a2, a3⟩ := row3 s8
      obtain ⟨x0, x1, x2, x3, x4, xf⟩ := row5 r8
      have hk := hkey v _ _ W8 hu8 hN
      obtain ⟨o, ho⟩ : ∃ o, keyP ps v = o := ⟨_, rfl⟩
      rw [ho] at hk
      have hll : l.length ≤ 100000 := by omega
      have H8 := (show Hid _ from And.intro hln (And.intro hon (And.intro (how7.same hB8) (And.intro hlen (And.intro hr7 (And.intro hB8 (And.intro hgr (And.intro ho (And.intro hll hB)))))))))
      clear hB r0 hg hr hn hkey hln hon how hlen hb7 how7 hgr hN hB8 r8 hb8 hu8 s8 hrg hli hr7 hg7 hs7 hen ho hll A
      cases o with
      | none =>
        go_wp2_with fail
        clear hW8
        refine hk.mono ?_
        rintro e w9 ⟨he, hb9⟩
        obtain rfl : e = .returned (.tuple #[.string ⟨#[]⟩, .bool false]) := he
        have H9 := (show Hid _ from hb9)
        clear hk hb9 a0 a1 a2 a3 x0 x1 x2 x3 x4 xf
        go_wp2
        go_roundg cnt7
        case measure => omega
        case rel =>
          obtain ⟨hln, hon, how, hlen, hr7, hB8, hgr, ho, hll, hB⟩ := H8.out
          exact ⟨_, cnt7, l, oa, ln, oc, Nat.le_refl _, rfl, hln, range_below hr7 (hB8.trans (H9.out.mono hB8.size)), hon.step_none hgr ho, how.same H9.out, by omega⟩
      | some k =>
        go_wp2_with fail
        clear hW8
        refine hk.mono ?_
        rintro e w9 ⟨he, hb9⟩
        obtain rfl : e = .returned (.tuple #[.string k, .bool true]) := he
        have hwi := With_any l (.slice oa ln oc) (W.heap.size + 1) (k, i) true w9 (H8.out.2.2.1.same hb9).own H8.out.2.2.2.2.2.2.2.2.1
        obtain ⟨z, hz⟩ : ∃ z, (hasE (k, i) l != true) = z := ⟨_, rfl⟩
        rw [hz] at hwi
        have H9 := (show Hid _ from hb9)
        clear hk hb9 hz a0 a1 a2 a3 x0 x1 x2 x3 x4 xf
        go_wp2_with fail
        refine hwi.mono ?_
        rintro e w10 ⟨v10, rfl, how10⟩
        obtain ⟨oa', oc', rfl⟩ := how10.slice
        have H10 := (show Hid _ from how10)
        clear hwi how10
        go_wp2
        go_roundg cnt7
        case measure => omega
        case rel =>
          obtain ⟨hln, hon, how, hlen, hr7, hB8, hgr, ho, hll, hB⟩ := H8.out
          have hb10 := H10.out.below
          have hb9 := how.same H9.out
          have hl1 := len_ins (k, i) l
          exact ⟨_, cnt7, insE (k, i) l, oa', _, oc', Nat.le_refl _, rfl, rfl, range_below hr7 ((hB8.trans (H9.out.mono hB8.size)).trans (hb10.mono (Nat.le_trans hB8.size H9.out.size))), hon.step_some hgr ho, ⟨hb9.below.trans (hb10.mono hb9.below.size), own_baseI H10.out.own (Nat.succ_le_succ hb9.below.size), Nat.le_succ _⟩, by omega⟩
end Go.Proofs.YtfpkkobclkdniaaGreatDoor

namespace Go.Proofs.YtfpkkobclkdniaaGreatDoor
open Go.RowKit

theorem lies_two {n : Nat} {W : World} {b : Nat} {x y : V} {lx fx ly fy : Value} {t1 : ByteArray} {m : Int}
    (h : W.heap[b]? = some (.cells #[.int .i64 x.kind, .int .i64 x.num, .string x.text, lx, fx, .int .i64 y.kind, .int .i64 y.num, .string y.text, ly, fy] 40 (0, 0))) (hx : Lies n W x lx fx) (hy : Lies n W y ly fy) :
    Lies (n + 1) W ⟨4, m, t1, [x, y], []⟩ (.slice (some ⟨b, 0, none⟩) 2 2) (.slice none 0 0) := by
  refine ⟨⟨[⟨x, lx, fx⟩, ⟨y, ly, fy⟩], rfl, ⟨⟨rfl, .inr ⟨b, 2, _, rfl, Nat.zero_le _, h, Nat.le_refl _, by decide, rfl, rfl⟩⟩, by simp, fun _ _ => trivial⟩, ?_⟩, ⟨[], rfl, RowAt.nil, fun e he => (by cases he)⟩⟩
  intro e he
  rcases List.mem_cons.1 he with rfl | he
  · exact hx
  · rcases List.mem_cons.1 he with rfl | he
    · exact hy
    · cases he
/-- an object of one. -/
theorem lies_one {n : Nat} {W : World} {b : Nat} {x : V} {nm : ByteArray} {lx fx : Value} {t1 : ByteArray} {m : Int}
    (h : W.heap[b]? = some (.cells #[.string nm, .int .i64 x.kind, .int .i64 x.num, .string x.text, lx, fx] 72 (0, 0))) (hx : Lies n W x lx fx) :
    Lies (n + 1) W ⟨5, m, t1, [], [(nm, x)]⟩ (.slice none 0 0) (.slice (some ⟨b, 0, none⟩) 1 1) := by
  refine ⟨⟨[], rfl, RowAt.nil, fun e he => (by cases he)⟩, ⟨[⟨nm, x, lx, fx⟩], rfl, ⟨⟨rfl, .inr ⟨b, 1, _, rfl, Nat.zero_le _, h, Nat.le_refl _, by decide, rfl, rfl⟩⟩, by simp, fun _ _ => trivial⟩, ?_⟩⟩
  intro e he
  rcases List.mem_cons.1 he with rfl | he
  · exact hx
  · cases he

def aw5 : V := ⟨2, 5, ⟨#[]⟩, [], []⟩
def aw6 : V := ⟨2, 6, ⟨#[]⟩, [], []⟩
def awL : V := ⟨4, 0, ⟨#[]⟩, [aw5, aw6], []⟩
def awV : V := ⟨5, 0, ⟨#[]⟩, [], [(⟨#[97]⟩, awL)]⟩
theorem valid_aw1 : Lib.validD [97, 46, 49] = true := by decide +kernel
theorem aw_parse : parsePP ⟨#[97, 46, 49]⟩ = some [⟨#[97]⟩, ⟨#[49]⟩] := by
  have hd : dots ⟨#[97, 46, 49]⟩ = [⟨#[97]⟩, ⟨#[49]⟩] := rfl
  rw [parse_good ⟨valid_aw1, by rw [hd]; decide, by
    rw [hd]
    intro p hp
    rcases List.mem_cons.1 hp with rfl | hp
    · decide
    · rcases List.mem_cons.1 hp with rfl | hp
      · decide
      · cases hp⟩, hd]
theorem aw_wrong : parsePP ⟨#[97, 46, 46, 98]⟩ = none := by
  refine parse_bad fun h => ?_
  have hd : dots ⟨#[97, 46, 46, 98]⟩ = [⟨#[97]⟩, ⟨#[]⟩, ⟨#[98]⟩] := rfl
  have := h.2.2 ⟨#[]⟩ (by rw [hd]; simp)
  exact absurd this.1 (by decide)
theorem aitoa1 : Lib.itoa 1 = [49] := by unfold Lib.itoa; rw [if_neg (by decide)]; show Lib.decDigits 1 = _; rw [Lib.decDigits]; rfl
theorem aplace1 : placeOf ⟨#[49]⟩ = some 1 := by
  show (if 0 ≤ (1 : Int) ∧ Lib.itoa 1 = [49] then some (1 : Int).toNat else none) = _
  rw [aitoa1]; rfl
theorem aw_find : findP awV [⟨#[97]⟩, ⟨#[49]⟩] = some aw6 := by
  have h1 : atP awV ⟨#[97]⟩ = some awL := by
    rw [at5 rfl, show awV.fields = [(⟨#[97]⟩, awL)] from rfl, getF_cons, if_pos (good_cmpT.refl _)]
  have h2 : atP awL ⟨#[49]⟩ = some aw6 := by rw [at4 rfl, aplace1]; rfl
  rw [find_cons_some h1, find_cons_some h2]; rfl

end Go.Proofs.YtfpkkobclkdniaaGreatDoor

namespace Go.Proofs.YtfpkkobclkdniaaGreatDoor
open Go.RowKit

def iOne : V := ⟨2, 1, ⟨#[]⟩, [], []⟩
def iObj (nm : ByteArray) : V := ⟨5, 0, ⟨#[]⟩, [], [(nm, iOne)]⟩
theorem nice_one : Nice 2 iOne := Nice.plain 2 (by decide) (by decide) (by constructor <;> decide) (Wd.no _ _ (by decide)) rfl rfl
theorem nice_obj (i : Nat) : Nice 3 (iObj (nameAt i)) := by
  refine ⟨(show (0 : Int) ≤ 5 by decide), (show (5 : Int) ≤ 5 by decide), (show I64 0 by constructor <;> decide), Wd.no _ _ (show (5 : Int) ≠ 1 by decide), (show (0 : Nat) ≤ 3 by decide), (show (1 : Nat) ≤ 4 by decide), trivial, fun x hx => (by cases hx), fun p hp => ?_⟩
  obtain rfl := List.mem_singleton.1 hp
  exact ⟨⟨i, rfl⟩, nice_one⟩
theorem key_ia : keyS ⟨#[97]⟩ (iObj ⟨#[97]⟩) = some (keyT iOne) := by
  unfold keyS
  rw [parse_one 97 vs0 rfl]
  show keyP _ _ = _
  unfold keyP
  rw [find_cons_some (y := iOne) (by rw [at5 rfl]; show getF _ [(_, _)] = _; rw [getF_cons, if_pos (good_cmpT.refl _)])]
  rfl
theorem key_ib : keyS ⟨#[97]⟩ (iObj ⟨#[98]⟩) = none := by
  unfold keyS
  rw [parse_one 97 vs0 rfl]
  show keyP _ _ = _
  unfold keyP
  rw [find_cons_none (by rw [at5 rfl]; show getF _ [(_, _)] = _; rw [getF_cons, if_neg (by decide +kernel)]; rfl)]
  rfl
theorem errC_A : errC ⟨#[65]⟩ ⟨#[97]⟩ = 5 := by unfold errC; rw [if_neg (by decide +kernel)]
theorem errC_i : errC ⟨#[105]⟩ ⟨#[97]⟩ = 0 := by unfold errC; rw [if_pos (by decide +kernel), parse_one 97 vs0 rfl]; rfl

set_option maxRecDepth 100000 in
set_option maxHeartbeats 8000000 in
theorem iawake_true (w : World) (hE : PEnv w) : Calls Tryz.prog 9 #[] w fun e w' => e = .returned (.bool true) ∧ Below w.heap.size w w' := by
  obtain ⟨W2, hW2⟩ : ∃ W, (w.alloc (.cells #[.string ⟨#[105]⟩, .string ⟨#[97]⟩, .bool false] 23)).alloc (.cells #[.int .i64 2, .int .i64 1, .string ⟨#[]⟩, .slice none 0 0, .slice none 0 0] 40) = W := ⟨_, rfl⟩
  have hB2 : Below w.heap.size w W2 := by rw [← hW2]; exact ((Below.refl _ _).alloc (Nat.le_refl _) _).alloc (by simp) _
  have q0 : W2.heap[w.heap.size]? = some (.cells #[.string ⟨#[105]⟩, .string ⟨#[97]⟩, .bool false] 23) := by rw [← hW2]; exact heap_alloc2_old
  have q1 : W2.heap[w.heap.size + 1]? = some (.cells #[.int .i64 2, .int .i64 1, .string ⟨#[]⟩, .slice none 0 0, .slice none 0 0] 40) := by rw [← hW2]; exact heap_alloc2_new
  have s2 : W2.heap.size = w.heap.size + 1 + 1 := by rw [← hW2]; simp
  obtain ⟨a0, a1, a2, a3⟩ := row3 q0
  obtain ⟨x0, x1, x2, x3, x4, xf⟩ := row5 q1
  obtain ⟨W3, hW3⟩ : ∃ W, W2.alloc (.cells #[.string ⟨#[97]⟩, .int .i64 2, .int .i64 1, .string ⟨#[]⟩, .slice none 0 0, .slice none 0 0] 72) = W := ⟨_, rfl⟩
  have hB3 : Below W2.heap.size W2 W3 := by rw [← hW3]; exact (Below.refl _ _).alloc (Nat.le_refl _) _
  have r3 : W3.heap[W2.heap.size]? = some (.cells #[.string ⟨#[97]⟩, .int .i64 2, .int .i64 1, .string ⟨#[]⟩, .slice none 0 0, .slice none 0 0] 72) := by rw [← hW3]; exact heap_alloc_new _ _
  have hE3 : PEnv W3 := (hE.below hB2).below hB3
  have hk := Key_any 1 ⟨#[105]⟩ ⟨#[97]⟩ false (iObj ⟨#[97]⟩) (.slice none 0 0) (.slice (some ⟨W2.heap.size, 0, none⟩) 1 1) W3 hE3 (by decide) (lies_one (x := iOne) (n := 0) r3 ⟨rfl, rfl, rfl, rfl⟩) (nice_obj 0)
  rw [key_ia] at hk
  obtain ⟨K, hK⟩ : ∃ K, keyT iOne = K := ⟨_, rfl⟩
  rw [hK] at hk
  have hk' : Calls Tryz.prog 13 #[.agg #[.string ⟨#[105]⟩, .string ⟨#[97]⟩, .bool false], .agg #[.int .i64 5, .int .i64 0, .string ⟨#[]⟩, .slice none 0 0, .slice (some ⟨W2.heap.size, 0, none⟩) 1 1]] W3 fun e w' => e = .returned (.tuple #[.string K, .bool true]) ∧ Below W3.heap.size W3 w' := hk
  rw [s2] at hk'
  have HH := (show Hid _ from And.intro hB2 (And.intro q0 (And.intro q1 (And.intro hB3 (And.intro hE3 (And.intro hK s2))))))
  have HW := (show Hid _ from And.intro hW2 hW3)
  rw [← hW2] at a0 a1 a2 a3 x0 x1 x2 x3 x4 xf
  clear hk hK hE3 r3 hB3 hB2 q0 q1 hE s2 hW2 hW3
  go_enter Tryz.func9, Tryz.ntmps9
  go_wp2_with fail
  rw [HW.out.1, HW.out.2]
  refine hk'.mono ?_
  rintro e w5 ⟨rfl, hb5⟩
  clear hk' HW a0 a1 a2 a3 x0 x1 x2 x3 x4 xf
  obtain ⟨hB2, q0, q1, hB3, hE3, hK, s2⟩ := HH.out
  have hB5 : Below W2.heap.size W2 w5 := hB3.trans (hb5.mono hB3.size)
  have p0 := (hB5.block _ (by omega)).trans q0
  have p1 := (hB5.block _ (by omega)).trans q1
  obtain ⟨a0, a1, a2, a3⟩ := row3 p0
  obtain ⟨x0, x1, x2, x3, x4, xf⟩ := row5 p1
  obtain ⟨W6, hW6⟩ : ∃ W, w5.alloc (.cells #[.string ⟨#[98]⟩, .int .i64 2, .int .i64 1, .string ⟨#[]⟩, .slice none 0 0, .slice none 0 0] 72) = W := ⟨_, rfl⟩
  have hB6 : Below w5.heap.size w5 W6 := by rw [← hW6]; exact (Below.refl _ _).alloc (Nat.le_refl _) _
  have r6 : W6.heap[w5.heap.size]? = some (.cells #[.string ⟨#[98]⟩, .int .i64 2, .int .i64 1, .string ⟨#[]⟩, .slice none 0 0, .slice none 0 0] 72) := by rw [← hW6]; exact heap_alloc_new _ _
  have hE6 : PEnv W6 := (hE3.below hb5).below hB6
  have hk := Key_any 1 ⟨#[105]⟩ ⟨#[97]⟩ false (iObj ⟨#[98]⟩) (.slice none 0 0) (.slice (some ⟨w5.heap.size, 0, none⟩) 1 1) W6 hE6 (by decide) (lies_one (x := iOne) (n := 0) r6 ⟨rfl, rfl, rfl, rfl⟩) (nice_obj 1)
  rw [key_ib] at hk
  have hk' : Calls Tryz.prog 13 #[.agg #[.string ⟨#[105]⟩, .string ⟨#[97]⟩, .bool false], .agg #[.int .i64 5, .int .i64 0, .string ⟨#[]⟩, .slice none 0 0, .slice (some ⟨w5.heap.size, 0, none⟩) 1 1]] W6 fun e w' => e = .returned (.tuple #[.string ⟨#[]⟩, .bool false]) ∧ Below W6.heap.size W6 w' := hk
  have H6 := (show Hid _ from And.intro (hB2.trans (hB5.mono (by omega))) (And.intro hB5 (And.intro hB6 (And.intro hE6 (And.intro q0 (And.intro q1 (And.intro hK s2)))))))
  clear hk hK hE6 r6 hB6 hB5 hB2 q0 q1 hb5 hB3 hE3 p0 p1 s2 HH
  go_wp2_with fail
  try rw [hW6]
  refine hk'.mono ?_
  rintro e w7 ⟨rfl, hb7⟩
  clear hk' hW6 a0 a1 a2 a3 x0 x1 x2 x3 x4 xf
  obtain ⟨hw5, hB5, hB6, hE6, q0, q1, hK, s2⟩ := H6.out
  have hc7 := Check_any ⟨#[65]⟩ ⟨#[97]⟩ false w7 (hE6.below hb7) (by decide) (by decide)
  rw [errC_A] at hc7
  have hB7 : Below W2.heap.size W2 w7 := hB5.trans ((hB6.trans (hb7.mono hB6.size)).mono hB5.size)
  have hw7 : Below w.heap.size w w7 := hw5.trans ((hB6.trans (hb7.mono hB6.size)).mono hw5.size)
  have H7 := (show Hid _ from And.intro hw7 (And.intro hB7 (And.intro (hE6.below hb7) (And.intro q0 (And.intro q1 (And.intro hK s2))))))
  clear hw5 hB5 hB6 hE6 q0 q1 hK hB7 hw7 hb7 s2 H6
  go_wp2_with fail
  refine hc7.mono ?_
  rintro e w8 ⟨v8, rfl, hv8, hb8⟩
  clear hc7
  obtain ⟨hw7, hB7, hE7, q0, q1, hK, s2⟩ := H7.out
  obtain ⟨⟨u8, z8, rfl⟩, hf8⟩ : (∃ u z, v8 = .iface u z) ∧ Flt 5 w8 v8 := hv8
  have hB8 : Below W2.heap.size W2 w8 := hB7.trans (hb8.mono hB7.size)
  have p0 := (hB8.block _ (by omega)).trans q0
  have p1 := (hB8.block _ (by omega)).trans q1
  obtain ⟨a0, a1, a2, a3⟩ := row3 p0
  obtain ⟨x0, x1, x2, x3, x4, xf⟩ := row5 p1
  have hput : Calls Tryz.prog 29 #[.agg #[.int .i64 2, .int .i64 1, .string ⟨#[]⟩, .slice none 0 0, .slice none 0 0]] w8 fun e w' => e = .returned (.string K) ∧ Below w8.heap.size w8 w' := by
    rw [← hK]
    exact lput_key 0 iOne (.slice none 0 0) (.slice none 0 0) w8 nice_one.moreI ⟨rfl, rfl, rfl, rfl⟩
  have H8 := (show Hid _ from And.intro (hw7.trans (hb8.mono hw7.size)) (And.intro hB8 (And.intro (hE7.below hb8) (And.intro q0 (And.intro hf8 s2)))))
  clear hw7 hB7 hE7 q0 q1 hK hb8 hB8 hf8 p0 p1 s2 H7
  go_wp2_with fail
  refine hput.mono ?_
  rintro e w9 ⟨rfl, hb9⟩
  clear hput a0 a1 a2 a3 x0 x1 x2 x3 x4 xf
  obtain ⟨hw8, hB8, hE8, q0, hf8, s2⟩ := H8.out
  have hB9 : Below W2.heap.size W2 w9 := hB8.trans (hb9.mono hB8.size)
  have p0 := (hB9.block _ (by omega)).trans q0
  obtain ⟨a0, a1, a2, a3⟩ := row3 p0
  have hc9 := Check_any ⟨#[105]⟩ ⟨#[97]⟩ false w9 (hE8.below hb9) (by decide) (by decide)
  rw [errC_i] at hc9
  have H9 := (show Hid _ from And.intro (hw8.trans (hb9.mono hw8.size)) (And.intro (hE8.below hb9) (hf8.below hb9)))
  clear hw8 hB8 hE8 q0 hf8 hb9 hB9 p0 s2 H8
  go_wp2_with fail
  refine hc9.mono ?_
  rintro e w10 ⟨v10, rfl, hv10, hb10⟩
  clear hc9 a0 a1 a2 a3
  obtain rfl : v10 = .nilIface := hv10
  obtain ⟨hw9, hE9, hf9⟩ := H9.out
  have hcd := (hf9.below hb10).code (hE9.below hb10)
  have H10 := (show Hid _ from hw9.trans (hb10.mono hw9.size))
  clear hw9 hE9 hf9 hb10 H9
  go_wp2_with fail
  refine hcd.mono ?_
  rintro e w11 ⟨rfl, hb11⟩
  have H11 := (show Hid _ from hb11)
  clear hcd hb11
  go_wp2_with fail
  go_ret
  exact ⟨rfl, H10.out.trans (H11.out.mono H10.out.size)⟩
end Go.Proofs.YtfpkkobclkdniaaGreatDoor

namespace Go.Proofs.YtfpkkobclkdniaaGreatDoor
open Go.RowKit

structure SpecK (n : Int) (u : Bool) (nm path : ByteArray) (uu : Bool) (ps : List ByteArray) : Prop where
  spec : ∀ W : World, Calls Tryz.prog 15 #[.int .u8 n, .bool u] W fun e w' => e = .returned (.agg #[.string nm, .string path, .bool uu]) ∧ Below W.heap.size W w'
  key : ∀ (m : Nat) (v : V) (l f : Value) (W : World), PEnv W → Lies m W v l f → Nice 3 v → Calls Tryz.prog 13 #[.agg #[.string nm, .string path, .bool uu], .agg #[.int .i64 v.kind, .int .i64 v.num, .string v.text, l, f]] W fun e w' => KeyAns (keyP ps v) e ∧ Below W.heap.size W w'
  lkey : ∀ (m : Nat) (v : V) (l f : Value) (W : World), Lies m W v l f → Nice 3 v → Calls Tryz.prog 17 #[.agg #[.string nm, .string path, .bool uu], .agg #[.int .i64 v.kind, .int .i64 v.num, .string v.text, l, f]] W fun e w' => KeyAns (keyP ps v) e ∧ Below W.heap.size W w'
  check : ∀ W : World, PEnv W → Calls Tryz.prog 11 #[.agg #[.string nm, .string path, .bool uu]] W fun e w' => e = .returned .nilIface ∧ Below W.heap.size W w'
  of : ∀ (base B0 : Nat) (rs : List Rec) (last : Int) (w : World), PEnv w → HSt base w B0 rs last → (∀ r ∈ rs, Nice 3 r.2) → Calls Tryz.prog 22 #[.agg #[.string nm, .string path, .bool uu], .pointer (some ⟨B0, 0, none⟩)] w fun e w' => ∃ v, e = .returned v ∧ OwE w w.heap.size v (ofP ps rs) w'
  lof : ∀ (M N : Nat) (g : Int → Option Mv) (rs : List Rec) (lo : Int) (w : World), MapOn mkV w M N g rs.length → Lp w g rs → RisesR lo rs → (∀ r ∈ rs, Nice 3 r.2) → rs.length ≤ 1000 → Calls Tryz.prog 23 #[.agg #[.string nm, .string path, .bool uu], .map (some M)] w fun e w' => ∃ v, e = .returned v ∧ OwE w w.heap.size v (ofP ps rs) w'
theorem specK (n : Int) (h0 : 0 ≤ n) (u : Bool) : ∃ nm path uu ps, SpecK n u nm path uu ps := by
  refine ⟨specName n, specPath n, u, specParts n, fun W => Spec_any n u W h0, fun m v l f W hE hL hN => ?_, fun m v l f W hL hN => LKey_any m n _ u v l f W hL hN, fun W hE => ?_, fun base B0 rs last w hE hh hn => IOf_any _ _ u _ w (spec_parse n) (spec_size n) hE hh hn, fun M N g rs lo w hm hg hr hn hl => LOf_any n _ u w hm hg hr hn hl⟩
  · rw [← keyS_spec]
    exact Key_any m _ _ u v l f W hE (spec_size n) hL hN
  · refine (Check_any (specName n) (specPath n) u W hE (name_size n) (spec_size n)).mono ?_
    rintro e w' ⟨v, rfl, hv, hb⟩
    rw [errC_spec] at hv
    obtain rfl : v = .nilIface := hv
    exact ⟨rfl, hb⟩
/-- a key, by its text and whether there is one. -/
theorem key_lit {o : Option ByteArray} {F : FuncId} {args : Array Value} {W : World} (h : Calls Tryz.prog F args W fun e w' => KeyAns o e ∧ Below W.heap.size W w') {K : ByteArray} {b : Bool} (hK : o.getD ⟨#[]⟩ = K) (hb : o.isSome = b) :
    Calls Tryz.prog F args W fun e w' => e = .returned (.tuple #[.string K, .bool b]) ∧ Below W.heap.size W w' := by
  subst hK hb
  exact h
/-- three cells, or five, just laid. -/
theorem box3 {w W : World} {a b c : Value} (h : w.alloc (.cells #[a, b, c] 23) = W) : Below w.heap.size w W ∧ W.heap[w.heap.size]? = some (.cells #[a, b, c] 23 (0, 0)) := by
  subst h
  exact ⟨(Below.refl _ _).alloc (Nat.le_refl _) _, heap_alloc_new _ _⟩
theorem box5 {w W : World} {a b c d e : Value} (h : w.alloc (.cells #[a, b, c, d, e] 40) = W) : Below w.heap.size w W ∧ W.heap[w.heap.size]? = some (.cells #[a, b, c, d, e] 40 (0, 0)) := by
  subst h
  exact ⟨(Below.refl _ _).alloc (Nat.le_refl _) _, heap_alloc_new _ _⟩
end Go.Proofs.YtfpkkobclkdniaaGreatDoor

namespace Go.Proofs.YtfpkkobclkdniaaGreatDoor
open Go.RowKit Go.Extern.Stop Go.Stop Go.Extern

theorem own : ownKnob Tryz.prog.godebug = none := by kernel_rfl
theorem laidOut : laidOutB Tryz.prog = true := by kernel_rfl
theorem cellsStr : Tryz.prog.cellsOf 9 = 1 := by kernel_rfl
theorem cellsU8 : Tryz.prog.cellsOf 5 = 1 := by kernel_rfl

theorem cells_of_strs {H : Type} {enc : TypeId × Value → H} {w : World} {base : Nat} {sp : Nat → Bool} {held : Bool} {fuel : Nat} {t : TypeId} {n : Nat} {cs : List Value} {ws : List (List UInt8)} {p : List MemPlace}
    (ht : Tryz.prog.underlying t = some (.array n 9)) (h : DataW.trod enc Tryz.prog w base sp held fuel t cs = some (.agg (ws.map fun s => .lit (.string s)), p)) (i : Nat) (hi : i < n) : ∃ u, ws[i]? = some u ∧ cs[i]? = some (.string ⟨u.toArray⟩) := by
  obtain ⟨xs, m, _, hx, _, hl, he⟩ := DataW.trod_array ht h
  have h1 := he i hi
  rw [cellsStr, Nat.mul_one, List.getElem?_eq_getElem (by omega)] at h1
  obtain ⟨s, hc, hs, _⟩ := DataW.trod_string Tryz.underlying9 h1
  simp only [Prod.mk.injEq, DataW.agg.injEq] at hx
  have h2 : (xs.map (·.1))[i]? = some (.lit (.string s.data.toList)) := by rw [List.getElem?_map, List.getElem?_eq_getElem (by omega), hs]; rfl
  rw [← hx.1, List.getElem?_map] at h2
  obtain ⟨u, hu1, hu2⟩ := Option.map_eq_some_iff.1 h2
  simp only [DataW.lit.injEq, Lit.string.injEq] at hu2
  refine ⟨u, hu1, ?_⟩
  have h3 := congrArg (·[0]?) hc
  simp only [List.getElem?_take, List.getElem?_drop] at h3
  simp at h3
  rw [h3, hu2]


theorem et : Tryz.prog.globalNamed "errors.errorType" = some 0 := by kernel_rfl
theorem rt : (Tryz.prog.cutTypes.find? (·.1 == "internal/reflectlite.rtype")).map (·.2) = some 145 := by kernel_rfl
theorem oneRow : ((List.range 257).filter fun t => Tryz.prog.rowNamed t [101, 114, 114, 111, 114]) = [28] := by kernel_rfl
theorem tsize : Tryz.prog.types.size = 257 := by kernel_rfl
theorem gPowType : (Tryz.prog.globals[6]?).map (·.type) = some 205 := by kernel_rfl
theorem cellsPow : Tryz.prog.cellsOf 205 = 20 := by kernel_rfl
theorem cellsU64 : Tryz.prog.cellsOf 101 = 1 := by kernel_rfl

theorem handle_of_laid {W : World} (h : handlesMet Tryz.prog [("errors.errorType", Rows.laid_errors_errorType)] W) : Handle W := by
  obtain ⟨name, u, ty, e1, e2, e3, e4, e5⟩ := h _ (List.mem_singleton.2 rfl)
  have en : name = [101, 114, 114, 111, 114] := (Option.some.inj e1).symm
  subst en
  obtain rfl := Option.some.inj (rt.symm.trans e2)
  have hm : ty ∈ (List.range 257).filter fun t => Tryz.prog.rowNamed t [101, 114, 114, 111, 114] := List.mem_filter.2 ⟨List.mem_range.2 (by rw [← tsize]; exact e3), e4⟩
  rw [oneRow] at hm
  obtain rfl := List.mem_singleton.1 hm
  have hh : typeHandle Tryz.prog 28 = .pointer (some ⟨11, 28, none⟩) := by kernel_rfl
  rw [hh] at e5
  unfold Handle
  simpa using World.var?_cell et e5 0

theorem u8Extra : U8Extra Tryz.prog Tryz.laysValid_ren := ⟨by kernel_rfl, by kernel_rfl, by kernel_rfl, by kernel_rfl, by kernel_rfl, by kernel_rfl, by kernel_rfl⟩
theorem accept_eq : Rows.laid_unicode_utf8_acceptRanges = Lib.acceptData := by kernel_rfl
theorem gSyn : Tryz.prog.globalNamed "strconv.ErrSyntax" = some 9 := by kernel_rfl
theorem gRange : Tryz.prog.globalNamed "strconv.ErrRange" = some 10 := by kernel_rfl
theorem gSynT : (Tryz.prog.globals[9]?).map (·.type) = some 28 := by kernel_rfl
theorem gRangeT : (Tryz.prog.globals[10]?).map (·.type) = some 28 := by kernel_rfl

theorem err_cell {W : World} {ll : List (String × DataW Unit)} {n : String} {g : Nat} {d : DataW Unit} {nm : String} {y : DataW Unit} (hd0 : d = .iface nm y) (hm : laidMet Tryz.prog ll W) (hin : (n, d) ∈ ll) (hg : Tryz.prog.globalNamed n = some g) (ht : (Tryz.prog.globals[g]?).map (·.type) = some 28) :
    ∃ ev, W.cell? ⟨g, 0, none⟩ = some ev ∧ (ev = .nilIface ∨ ∃ te pe, ev = .iface te pe) := by
  obtain ⟨g', t, cs, fuel, p, hg', hty, hvar, hd⟩ := Lib.laidMet.reads hm (n := n) (d := d) hin
  obtain rfl := Option.some.inj (hg.symm.trans hg')
  obtain rfl := Option.some.inj (ht.symm.trans hty)
  subst hd0
  have h1 := World.var?_cell hg hvar 0
  obtain ⟨_, u, v, hcs, _, _⟩ := iface_of_trod Tryz.underlying28 hd
  have h2 : cs[0]? = some (.iface u v) := by
    have := congrArg (·[0]?) hcs
    simpa using this
  rw [h2] at h1
  exact ⟨_, h1, .inr ⟨u, v, rfl⟩⟩

theorem env_of {W : World} {ll : List (String × DataW Unit)} (hm : laidMet Tryz.prog ll W) (hh : handlesMet Tryz.prog [("errors.errorType", Rows.laid_errors_errorType)] W) (i1 : ("unicode/utf8.first", Rows.laid_unicode_utf8_first) ∈ ll) (i2 : ("unicode/utf8.acceptRanges", Rows.laid_unicode_utf8_acceptRanges) ∈ ll) (i3 : ("internal/strconv.uint64pow10", Rows.laid_internal_strconv_uint64pow10) ∈ ll) (i4 : ("strconv.ErrSyntax", Rows.laid_strconv_ErrSyntax) ∈ ll) (i5 : ("strconv.ErrRange", Rows.laid_strconv_ErrRange) ∈ ll) (hsh : W.ShapedOpen Tryz.prog) : PEnv W := by
  refine ⟨handle_of_laid hh, ?_, ?_, err_cell (d := Rows.laid_strconv_ErrSyntax) rfl hm i4 gSyn gSynT, err_cell (d := Rows.laid_strconv_ErrRange) rfl hm i5 gRange gRangeT, cell_of_shapedOpen_int (g := 5) (zero := #[.int .i64 0]) (t := 3) hsh (of_decide_eq_true (by kernel_rfl)) (by kernel_rfl) rfl (by kernel_rfl) (by kernel_rfl) Tryz.underlying3⟩
  · have h3 := Lib.laidMet.reads hm (n := "unicode/utf8.first") (d := Rows.laid_unicode_utf8_first) i1
    have h4 := Lib.laidMet.reads hm (n := "unicode/utf8.acceptRanges") (d := Rows.laid_unicode_utf8_acceptRanges) i2
    rw [show Rows.laid_unicode_utf8_first = Lib.firstData from Pinned.utf8First_eq] at h3
    rw [accept_eq] at h4
    exact utf8Tabs_of_readsT (U8Types.of196 Tryz.laysValid) u8Extra h3 h4
  · obtain ⟨g, t, cs, fuel, p, hg, hty, hvar, hd⟩ := Lib.laidMet.reads hm (n := "internal/strconv.uint64pow10") (d := Rows.laid_internal_strconv_uint64pow10) i3
    obtain rfl := Option.some.inj (gPow.symm.trans hg)
    obtain rfl := Option.some.inj (gPowType.symm.trans hty)
    unfold Pow Lib.TabIs
    rw [hvar, ← Lib.cells_of_tab Tryz.underlying205 Tryz.underlying101 cellsU64 cellsPow (zs := Lib.pow10Tab) hd]
def putCells (cs : Array Value) : Obj → Obj
  | .cells _ t frozen => .cells cs t frozen
  | o => o
def tabFirst : Array Value := ((List.range 256).map fun c => Value.int .u8 (Lib.firstT c : Int)).toArray
def tab32 : Obj → Obj := (putCells #[.int .u8 0, .int .u8 1, .int .u8 28, .int .u8 2, .int .u8 29, .int .u8 14, .int .u8 24, .int .u8 3, .int .u8 30, .int .u8 22, .int .u8 20, .int .u8 15, .int .u8 25, .int .u8 17, .int .u8 4, .int .u8 8, .int .u8 31, .int .u8 27, .int .u8 13, .int .u8 23, .int .u8 21, .int .u8 19, .int .u8 16, .int .u8 7, .int .u8 26, .int .u8 12, .int .u8 18, .int .u8 6, .int .u8 11, .int .u8 5, .int .u8 10, .int .u8 9])
def tab64 : Obj → Obj := (putCells #[.int .u8 0, .int .u8 1, .int .u8 56, .int .u8 2, .int .u8 57, .int .u8 49, .int .u8 28, .int .u8 3, .int .u8 61, .int .u8 58, .int .u8 42, .int .u8 50, .int .u8 38, .int .u8 29, .int .u8 17, .int .u8 4, .int .u8 62, .int .u8 47, .int .u8 59, .int .u8 36, .int .u8 45, .int .u8 43, .int .u8 51, .int .u8 22, .int .u8 53, .int .u8 39, .int .u8 33, .int .u8 30, .int .u8 24, .int .u8 18, .int .u8 12, .int .u8 5, .int .u8 63, .int .u8 55, .int .u8 48, .int .u8 27, .int .u8 60, .int .u8 41, .int .u8 37, .int .u8 16, .int .u8 46, .int .u8 35, .int .u8 44, .int .u8 21, .int .u8 52, .int .u8 32, .int .u8 23, .int .u8 11, .int .u8 54, .int .u8 26, .int .u8 40, .int .u8 15, .int .u8 34, .int .u8 20, .int .u8 31, .int .u8 10, .int .u8 25, .int .u8 14, .int .u8 19, .int .u8 9, .int .u8 13, .int .u8 8, .int .u8 7, .int .u8 6])
def tabAcc : Obj → Obj := (putCells #[.int .u8 128, .int .u8 191, .int .u8 160, .int .u8 191, .int .u8 128, .int .u8 159, .int .u8 144, .int .u8 191, .int .u8 128, .int .u8 143, .int .u8 0, .int .u8 0, .int .u8 0, .int .u8 0, .int .u8 0, .int .u8 0, .int .u8 0, .int .u8 0, .int .u8 0, .int .u8 0, .int .u8 0, .int .u8 0, .int .u8 0, .int .u8 0, .int .u8 0, .int .u8 0, .int .u8 0, .int .u8 0, .int .u8 0, .int .u8 0, .int .u8 0, .int .u8 0])
def tabPow : Obj → Obj := (putCells #[.int .u64 1, .int .u64 10, .int .u64 100, .int .u64 1000, .int .u64 10000, .int .u64 100000, .int .u64 1000000, .int .u64 10000000, .int .u64 100000000, .int .u64 1000000000, .int .u64 10000000000, .int .u64 100000000000, .int .u64 1000000000000, .int .u64 10000000000000, .int .u64 100000000000000, .int .u64 1000000000000000, .int .u64 10000000000000000, .int .u64 100000000000000000, .int .u64 1000000000000000000, .int .u64 10000000000000000000])
def laidA (h : Array Obj) : Array Obj := (((h.modify 0 (putCells #[.iface 145 (.agg #[.pointer (some ⟨11, 28, none⟩)])])).modify 3 (putCells tabFirst)).modify 4 tabAcc).modify 6 tabPow
def laidC (h : Array Obj) : Array Obj := (((h.modify 10 (putCells #[.iface 226 (.pointer (some ⟨h.size, 0, none⟩))])).modify 9 (putCells #[.iface 226 (.pointer (some ⟨h.size + 1, 0, none⟩))])).push (.cells #[.string ⟨#[118, 97, 108, 117, 101, 32, 111, 117, 116, 32, 111, 102, 32, 114, 97, 110, 103, 101]⟩] 228 (0, 0))).push (.cells #[.string ⟨#[105, 110, 118, 97, 108, 105, 100, 32, 115, 121, 110, 116, 97, 120]⟩] 228 (0, 0))
end Go.Proofs.YtfpkkobclkdniaaGreatDoor

namespace Go.Proofs.YtfpkkobclkdniaaGreatDoor
open Go.RowKit Go.Extern.Stop Go.Stop Go.Extern

theorem gWords : Tryz.prog.globalNamed "roundelay/roundelaylaw03.words" = some 1 := by kernel_rfl
theorem gNames : Tryz.prog.globalNamed "roundelay/roundelaylaw03.names" = some 2 := by kernel_rfl
theorem gWordsT : (Tryz.prog.globals[1]?).map (·.type) = some 123 := by kernel_rfl
theorem gNamesT : (Tryz.prog.globals[2]?).map (·.type) = some 124 := by kernel_rfl
abbrev laid9 : List (String × DataW Unit) := [("math/bits.deBruijn32tab", Rows.laid_math_bits_deBruijn32tab), ("math/bits.deBruijn64tab", Rows.laid_math_bits_deBruijn64tab), ("internal/strconv.uint64pow10", Rows.laid_internal_strconv_uint64pow10), ("unicode/utf8.acceptRanges", Rows.laid_unicode_utf8_acceptRanges), ("strconv.ErrRange", Rows.laid_strconv_ErrRange), ("strconv.ErrSyntax", Rows.laid_strconv_ErrSyntax), ("roundelay/roundelaylaw03.words", Rows.laid_roundelay_roundelaylaw03_words), ("roundelay/roundelaylaw03.names", Rows.laid_roundelay_roundelaylaw03_names), ("unicode/utf8.first", Rows.laid_unicode_utf8_first)]
abbrev laid10 : List (String × DataW Unit) := [("math/bits.deBruijn32tab", Rows.laid_math_bits_deBruijn32tab), ("math/bits.deBruijn64tab", Rows.laid_math_bits_deBruijn64tab), ("internal/strconv.uint64pow10", Rows.laid_internal_strconv_uint64pow10), ("unicode/utf8.acceptRanges", Rows.laid_unicode_utf8_acceptRanges), ("errors.errorType", Rows.laid_errors_errorType), ("strconv.ErrRange", Rows.laid_strconv_ErrRange), ("strconv.ErrSyntax", Rows.laid_strconv_ErrSyntax), ("roundelay/roundelaylaw03.words", Rows.laid_roundelay_roundelaylaw03_words), ("roundelay/roundelaylaw03.names", Rows.laid_roundelay_roundelaylaw03_names), ("unicode/utf8.first", Rows.laid_unicode_utf8_first)]
theorem env_of_laid {W : World} (h : laidMetH Tryz.prog laid10 W) (hsh : W.ShapedOpen Tryz.prog) : PEnv W ∧ Tabs W := by
  have h' : laidMet Tryz.prog laid9 W ∧ handlesMet Tryz.prog [("errors.errorType", Rows.laid_errors_errorType)] W := h
  obtain ⟨hm, hh⟩ := h'
  refine ⟨env_of hm hh (by simp) (by simp) (by simp) (by simp) (by simp) hsh, ⟨?_, ?_⟩⟩
  · obtain ⟨g, t, cs, fuel, p, hg, hty, hvar, hd⟩ := Lib.laidMet.reads hm (n := "roundelay/roundelaylaw03.words") (d := Rows.laid_roundelay_roundelaylaw03_words) (by simp)
    obtain rfl := Option.some.inj (gWords.symm.trans hg)
    obtain rfl := Option.some.inj (gWordsT.symm.trans hty)
    intro i hi
    obtain ⟨u, hu1, hu2⟩ := cells_of_strs (ws := [[], [97], [98], [97, 98], [0], [195, 169], [122, 0], [108, 111, 110, 103, 44, 32, 97, 110, 100, 32, 108, 111, 110, 103, 101, 114]]) Tryz.underlying123 hd i hi
    have h1 := World.var?_cell gWords hvar i
    rw [show cs[i]? = some (.string ⟨u.toArray⟩) by simpa using hu2] at h1
    rw [h1]
    match i, hi, hu1 with
    | 0, _, h => cases h; rfl
    | 1, _, h => cases h; rfl
    | 2, _, h => cases h; rfl
    | 3, _, h => cases h; rfl
    | 4, _, h => cases h; rfl
    | 5, _, h => cases h; rfl
    | 6, _, h => cases h; rfl
    | 7, _, h => cases h; rfl
  · obtain ⟨g, t, cs, fuel, p, hg, hty, hvar, hd⟩ := Lib.laidMet.reads hm (n := "roundelay/roundelaylaw03.names") (d := Rows.laid_roundelay_roundelaylaw03_names) (by simp)
    obtain rfl := Option.some.inj (gNames.symm.trans hg)
    obtain rfl := Option.some.inj (gNamesT.symm.trans hty)
    intro i hi
    obtain ⟨u, hu1, hu2⟩ := cells_of_strs (ws := [[97], [98], [99], [110]]) Tryz.underlying124 hd i hi
    have h1 := World.var?_cell gNames hvar i
    rw [show cs[i]? = some (.string ⟨u.toArray⟩) by simpa using hu2] at h1
    rw [h1]
    match i, hi, hu1 with
    | 0, _, h => cases h; rfl
    | 1, _, h => cases h; rfl
    | 2, _, h => cases h; rfl
    | 3, _, h => cases h; rfl

def tabWords : Obj → Obj := (putCells #[.string (wordAt 0), .string (wordAt 1), .string (wordAt 2), .string (wordAt 3), .string (wordAt 4), .string (wordAt 5), .string (wordAt 6), .string (wordAt 7)])
def tabNames : Obj → Obj := (putCells #[.string (nameAt 0), .string (nameAt 1), .string (nameAt 2), .string (nameAt 3)])
def laidB (h : Array Obj) : Array Obj := (((h.modify 7 tab32).modify 8 tab64).modify 1 tabWords).modify 2 tabNames
/-- a world that meets the condition: the variables' cells laid. -/
def laidOn (w : World) : World := { w with heap := laidC (laidB (laidA w.heap)) }
theorem laidWorld_met (os : Os) (args : Array Value) : laidMetH Tryz.prog laid10 ((laidOn (World.holding Tryz.prog os ⟨#[], #[], []⟩)).forCall (fun _ _ => 0) ⟨#[], args, []⟩).memory :=
  laidMetH_of_parts (laidMet_of_run' 8 (by kernel_rfl) (by kernel_rfl)) (by kernel_rfl)
set_option maxRecDepth 100000 in
open Go.ChangeShapes Go.WideShapes Go.ChangeAt in
/-- a slice of bytes that came in. -/
theorem open_bytesAt {H : Type} {enc : TypeId × Value → H} {W : World} {base : Nat} {v : Value} {d : DataW H} {p : List MemPlace} (hval : Value.okWide Tryz.prog W .any base 24 v) (h : DataW.Trod enc Tryz.prog W 0 (fun _ => true) true 24 v d p) : ∃ bs, BytesAt W v bs := by
  obtain ⟨a1, len, cap, rfl⟩ := okWide_slice Tryz.underlying24 hval
  obtain ⟨fuel, hf⟩ := h
  rcases open_ints Tryz.underlying24 Tryz.underlying5 cellsU8 hf with ⟨hcs, hx⟩ | ⟨a, len', cap', zs, hcs, _, hl, hm, hz, hx, hcell, hwz⟩
  · simp [Value.cells] at hcs
    obtain ⟨rfl, rfl, rfl⟩ := hcs
    exact ⟨[], none, 0, rfl, Nat.le_refl _, by omega, fun h => absurd rfl h⟩
  · simp [Value.cells] at hcs
    obtain ⟨rfl, rfl, rfl⟩ := hcs
    simp only [if_true] at hz
    have hlen : ((zs.take len).map fun n => UInt8.ofNat n.toNat).length = len := by simp; omega
    refine ⟨(zs.take len).map fun n => UInt8.ofNat n.toNat, some a, cap, by rw [hlen], by omega, by unfold maxLen at hm; omega, fun hne => ?_⟩
    have h0 : 0 < len := by
      rcases Nat.eq_zero_or_pos len with h | h
      · exact absurd (List.eq_nil_of_length_eq_zero (by rw [hlen]; exact h)) hne
      · exact h
    obtain ⟨ab, ao, spot⟩ := a
    have hspot : spot = none := by simpa [Addr.add] using World.cell?_spot (hcell 0 (by omega))
    subst hspot
    refine ⟨ab, ao, rfl, fun j u hj => ?_⟩
    have hjl : j < len := by rw [← hlen]; exact (List.getElem?_eq_some_iff.1 hj).1
    have hc := hcell j (by omega)
    rw [Addr.add_lit] at hc
    rw [hc]
    rw [List.getElem?_map, List.getElem?_take, if_pos hjl, List.getElem?_eq_getElem (by omega)] at hj
    simp only [Option.map_some, Option.some.injEq] at hj
    have hw := hwz zs[j] (List.getElem_mem _)
    have hb : 0 ≤ zs[j] ∧ zs[j] < 256 := by
      have h1 : IntKind.u8.min = 0 := rfl
      have h2 : IntKind.u8.max = 255 := rfl
      simp only [Lit.wf, Bool.and_eq_true, decide_eq_true_eq] at hw
      omega
    rw [show zs.getD j 0 = zs[j] by simp [List.getD, List.getElem?_eq_getElem (show j < zs.length by omega)], ← hj]
    congr 2
    rw [UInt8.toNat_ofNat']
    omega

end Go.Proofs.YtfpkkobclkdniaaGreatDoor
