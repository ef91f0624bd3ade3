/-
  What is printed is read as it was: values as plain data. No conditions beyond those stated.
  The program's Print by its contract. Conditions: as stated.
  The program's Print by its contract: objects, values. Conditions: as stated.
  slices.BinarySearchFunc over fields whose names rise. Conditions: as stated.
-/
import Derived.Test.YtnkoblhdbccbeaaGreatDoorU3
import Derived.Test.YtnkoblhdbccbeaaGreatDoorU4
import Derived.Test.YtnkoblhdbccbeaaGreatDoorU9
import Derived.Test.YtnkoblhdbccbeaaGreatDoorU8
namespace Go.Proofs.YtnkoblhdbccbeaaGreatDoor

/-- behind a number. -/
def Stop (R : List UInt8) : Prop := ¬ (48 ≤ hd R ∧ hd R ≤ 57) ∧ ¬ (hd R = 46 ∨ hd R = 101 ∨ hd R = 69)
def Bls (b : List UInt8) : Prop := ∀ x ∈ b, isBl x
theorem skip_bls : ∀ (b l : List UInt8), Bls b → skip (b ++ l) = skip l
  | [], _, _ => rfl
  | x :: t, l, h => by
    have hx := h x (by simp)
    show skip (x :: (t ++ l)) = _
    simp only [skip, if_pos hx]
    exact skip_bls t l fun y hy => h y (by simp [hy])
theorem value_bls (m : Nat) (b l : List UInt8) (h : Bls b) : valueP m (b ++ l) = valueP m l := by
  cases m with
  | zero => rfl
  | succ m => simp only [valueP, skip_bls b l h]

/-- what g reads of a text. -/
def Reads (g : List UInt8 → Except Int (V × List UInt8)) (t : List UInt8) (x : V) : Prop := ∀ R, Stop R → g (t ++ R) = .ok (x, R)

theorem stop_sep (c : UInt8) (hc : c.toNat = 44 ∨ c.toNat = 93 ∨ c.toNat = 125 ∨ c.toNat = 32) (R : List UInt8) : Stop (c :: R) := by
  show ¬ (48 ≤ c.toNat ∧ c.toNat ≤ 57) ∧ ¬ (c.toNat = 46 ∨ c.toNat = 101 ∨ c.toNat = 69)
  omega

def joinB (b : List UInt8) : List (List UInt8) → List UInt8
  | [] => []
  | [x] => x
  | x :: y :: r => x ++ 44 :: (b ++ joinB b (y :: r))
theorem join_sep : ∀ xs, joinB [] xs = sepBy xs
  | [] => rfl
  | [x] => rfl
  | x :: y :: r => by
    show x ++ 44 :: ([] ++ joinB [] (y :: r)) = x ++ 44 :: sepBy (y :: r)
    rw [join_sep (y :: r)]; rfl
theorem join_len (b : List UInt8) : ∀ xs : List (List UInt8), xs.length ≤ (joinB b xs).length + 1
  | [] => by simp
  | [x] => by simp
  | x :: y :: r => by
    have := join_len b (y :: r)
    show _ ≤ (x ++ 44 :: (b ++ joinB b (y :: r))).length + 1
    simp only [List.length_append, List.length_cons] at this ⊢
    omega

theorem ends_true (c : UInt8) (h : c.toNat = 93 ∨ c.toNat = 125) (R : List UInt8) : endsP c.toNat (c :: R) = some (true, R) := by
  have hs : skip (c :: R) = c :: R := skip_hd (show c.toNat ≠ 9 ∧ c.toNat ≠ 10 ∧ c.toNat ≠ 13 ∧ c.toNat ≠ 32 by omega)
  unfold endsP
  rw [hs, if_pos (show hd (c :: R) = c.toNat from rfl)]
  rfl
theorem ends_false (c : Nat) (h : c ≠ 44) (R : List UInt8) : endsP c (44 :: R) = some (false, R) := by
  have hs : skip (44 :: R) = 44 :: R := skip_hd (show (44 : Nat) ≠ 9 ∧ (44 : Nat) ≠ 10 ∧ (44 : Nat) ≠ 13 ∧ (44 : Nat) ≠ 32 by decide)
  unfold endsP
  rw [hs, if_neg (show ¬ hd (44 :: R) = c from fun e => h (by rw [← e]; rfl)), if_pos (show hd (44 :: R) = 44 from rfl)]
  rfl

theorem elems_join {g : List UInt8 → Except Int (V × List UInt8)} (b : List UInt8) (hg : ∀ l, g (b ++ l) = g l) {α : Type} (tx : α → List UInt8) (cn : α → V) (R : List UInt8) : ∀ (xs : List α) (m : Nat) (acc : List V), xs ≠ [] → xs.length ≤ m → (∀ x ∈ xs, Reads g (tx x) (cn x)) →
    elemsP g m acc (joinB b (xs.map tx) ++ 93 :: R) = .ok (acc ++ xs.map cn, R)
  | [], _, _, h, _, _ => absurd rfl h
  | x :: xs, 0, _, _, h, _ => by simp at h
  | [x], m + 1, acc, _, _, hr => by
    have h1 := hr x (by simp) (93 :: R) (stop_sep 93 (by decide) R)
    show elemsP g (m + 1) acc (tx x ++ 93 :: R) = _
    simp only [elemsP, h1]
    rw [show endsP 93 (93 :: R) = some (true, R) from ends_true 93 (by decide) R]
    rfl
  | x :: y :: r, m + 1, acc, _, hm, hr => by
    have h1 := hr x (by simp) (44 :: (b ++ (joinB b ((y :: r).map tx) ++ 93 :: R))) (stop_sep 44 (by decide) _)
    have ih := elems_join b hg tx cn R (y :: r) m (acc ++ [cn x]) (by simp) (by simpa using hm) (fun z hz => hr z (by simp [hz]))
    have e : joinB b ((x :: y :: r).map tx) ++ 93 :: R = tx x ++ 44 :: (b ++ (joinB b ((y :: r).map tx) ++ 93 :: R)) := by
      show (tx x ++ 44 :: (b ++ joinB b ((y :: r).map tx))) ++ 93 :: R = _
      simp [List.append_assoc]
    rw [e]
    simp only [elemsP, h1]
    rw [ends_false 93 (by decide)]
    simp only
    have hstep : elemsP g m (acc ++ [cn x]) (b ++ (joinB b ((y :: r).map tx) ++ 93 :: R)) = elemsP g m (acc ++ [cn x]) (joinB b ((y :: r).map tx) ++ 93 :: R) := by
      cases m with
      | zero => rfl
      | succ m => simp only [elemsP, hg]
    rw [hstep, ih]
    simp

/-- a field as a text. -/
def fieldB (b1 b2 : List UInt8) (name : ByteArray) (t : List UInt8) : List UInt8 := quoteL name.data.toList ++ (b1 ++ 58 :: (b2 ++ t))
def insAll {α : Type} (nm : α → ByteArray) (cn : α → V) (acc : List (ByteArray × V)) (xs : List α) : List (ByteArray × V) := xs.foldl (fun a x => setF (nm x) (cn x) a) acc

theorem quote_hd (l : List UInt8) : hd (quoteL l) = 34 := rfl
theorem quote_ne (l : List UInt8) : quoteL l ≠ [] := by simp [quoteL]
theorem field_read {g : List UInt8 → Except Int (V × List UInt8)} (b1 b2 b3 : List UInt8) (h1 : Bls b1) (h3 : Bls b3) (hg : ∀ l, g (b2 ++ l) = g l) (name : ByteArray) (hname : mend name.data.toList = name.data.toList) (t : List UInt8) (x : V) (hr : Reads g t x) (fs : List (ByteArray × V)) (hget : getF name fs = none) (R : List UInt8) (hR : Stop R) :
    fieldP g fs (b3 ++ (fieldB b1 b2 name t ++ R)) = .ok (setF name x fs, R) := by
  have e : fieldB b1 b2 name t ++ R = quoteL name.data.toList ++ (b1 ++ 58 :: (b2 ++ (t ++ R))) := by
    unfold fieldB
    simp [List.append_assoc]
  have hs : skip (b3 ++ (fieldB b1 b2 name t ++ R)) = quoteL name.data.toList ++ (b1 ++ 58 :: (b2 ++ (t ++ R))) := by
    rw [skip_bls b3 _ h3, e, skip_hd (by rw [hd_append (quote_ne _), quote_hd]; decide)]
  have hnm : (⟨(name.data.toList).toArray⟩ : ByteArray) = name := by cases name; rfl
  unfold fieldP
  rw [hs, readL_quote, hname]
  simp only [hnm, hget, Option.isSome_none, Bool.false_eq_true, if_false, drop_app]
  have h58 : skip (b1 ++ 58 :: (b2 ++ (t ++ R))) = 58 :: (b2 ++ (t ++ R)) := by
    rw [skip_bls b1 _ h1]
    exact skip_hd (show (58 : Nat) ≠ 9 ∧ (58 : Nat) ≠ 10 ∧ (58 : Nat) ≠ 13 ∧ (58 : Nat) ≠ 32 by decide)
  rw [h58, if_pos (show hd (58 :: (b2 ++ (t ++ R))) = 58 from rfl), List.drop_succ_cons, List.drop_zero, hg, hr R hR]

theorem membs_join {g : List UInt8 → Except Int (V × List UInt8)} (b1 b2 b3 : List UInt8) (h1 : Bls b1) (h3 : Bls b3) (hg : ∀ l, g (b2 ++ l) = g l) {α : Type} (nm : α → ByteArray) (tx : α → List UInt8) (cn : α → V) (R : List UInt8) :
    ∀ (xs : List α) (m : Nat) (acc : List (ByteArray × V)) (b : List UInt8), Bls b → xs ≠ [] → xs.length ≤ m → (∀ x ∈ xs, Reads g (tx x) (cn x) ∧ mend (nm x).data.toList = (nm x).data.toList) → (∀ x ∈ xs, getF (nm x) acc = none) → xs.Pairwise (fun x y => ¬ cmpT (nm y) (nm x) = 0) →
    membsP g m acc (b ++ (joinB b3 (xs.map fun x => fieldB b1 b2 (nm x) (tx x)) ++ 125 :: R)) = .ok (insAll nm cn acc xs, R)
  | [], _, _, _, _, h, _, _, _, _ => absurd rfl h
  | x :: xs, 0, _, _, _, _, h, _, _, _ => by simp at h
  | [x], m + 1, acc, b, hb, _, _, hr, hget, _ => by
    have hx := field_read b1 b2 b h1 hb hg (nm x) (hr x (by simp)).2 (tx x) (cn x) (hr x (by simp)).1 acc (hget x (by simp)) (125 :: R) (stop_sep 125 (by decide) R)
    show membsP g (m + 1) acc (b ++ (fieldB b1 b2 (nm x) (tx x) ++ 125 :: R)) = _
    simp only [membsP, hx]
    rw [show endsP 125 (125 :: R) = some (true, R) from ends_true 125 (by decide) R]
    rfl
  | x :: y :: r, m + 1, acc, b, hb, _, hm, hr, hget, hd => by
    have hx := field_read b1 b2 b h1 hb hg (nm x) (hr x (by simp)).2 (tx x) (cn x) (hr x (by simp)).1 acc (hget x (by simp)) (44 :: (b3 ++ (joinB b3 ((y :: r).map fun x => fieldB b1 b2 (nm x) (tx x)) ++ 125 :: R))) (stop_sep 44 (by decide) _)
    have hd' := List.pairwise_cons.1 hd
    have ih := membs_join b1 b2 b3 h1 h3 hg nm tx cn R (y :: r) m (setF (nm x) (cn x) acc) b3 h3 (by simp) (by simpa using hm) (fun z hz => hr z (by simp [hz]))
      (fun z hz => by rw [get_set_other _ _ _ (hd'.1 z hz)]; exact hget z (by simp [hz])) hd'.2
    have e : b ++ (joinB b3 ((x :: y :: r).map fun x => fieldB b1 b2 (nm x) (tx x)) ++ 125 :: R) = b ++ (fieldB b1 b2 (nm x) (tx x) ++ 44 :: (b3 ++ (joinB b3 ((y :: r).map fun x => fieldB b1 b2 (nm x) (tx x)) ++ 125 :: R))) := by
      show b ++ ((fieldB b1 b2 (nm x) (tx x) ++ 44 :: (b3 ++ joinB b3 ((y :: r).map fun x => fieldB b1 b2 (nm x) (tx x)))) ++ 125 :: R) = _
      simp [List.append_assoc]
    rw [e]
    simp only [membsP, hx]
    rw [ends_false 125 (by decide)]
    simp only
    rw [ih]
    rfl
end Go.Proofs.YtnkoblhdbccbeaaGreatDoor

namespace Go.Proofs.YtnkoblhdbccbeaaGreatDoor
open Go.RowKit Go.Extern.Stop Go.Stop Go.Extern

/-- write, so deep. -/
def WriteAt (n : Nat) : Prop := ∀ (w0 : World) (b : Nat) (v : V) (l f : Value), Lies n w0 v l f → Fit n v → ∀ (out : List UInt8) (w : World), Wr w0 b out w → out.length + (printV (n + 1) v).length ≤ 1000000000 →
  Calls Tryz.prog 34 #[.pointer (some ⟨b, 0, none⟩), .agg #[.int .i64 v.kind, .int .i64 v.num, .string v.text, l, f]] w fun e w' => e = .returned (.tuple #[]) ∧ Wr w0 b (out ++ printV (n + 1) v) w' ∧ OK5 b w w'

set_option maxRecDepth 100000 in
set_option maxHeartbeats 4000000 in
theorem writeList_any (n : Nat) (ih : ∀ (w0 : World) (b : Nat) (x : V) (l f : Value), Lies n w0 x l f → Fit n x → ∀ (out : List UInt8) (w : World), Wr w0 b out w → out.length + (printV (n + 1) x).length ≤ 1000000000 →
      Calls Tryz.prog 34 #[.pointer (some ⟨b, 0, none⟩), .agg #[.int .i64 x.kind, .int .i64 x.num, .string x.text, l, f]] w fun e w' => e = .returned (.tuple #[]) ∧ Wr w0 b (out ++ printV (n + 1) x) w' ∧ OK5 b w w')
    (w0 : World) (b : Nat) (xs : List El) (sl : Value) (hrow : RowAt (fun _ => True) w0 31 5 sl xs.length (encEs xs)) (hl : ∀ e ∈ xs, Lies n w0 e.v e.l e.f) (hf : ∀ e ∈ xs, Fit n e.v) (out : List UInt8) (w : World) (h : Wr w0 b out w)
    (ps : List (List UInt8)) (hps : ps = (xs.map El.v).map (printV (n + 1))) (hlen : out.length + (sepBy ps).length + 2 ≤ 1000000000) :
    Calls Tryz.prog 69 #[.pointer (some ⟨b, 0, none⟩), sl] w fun e w' => e = .returned (.tuple #[]) ∧ Wr w0 b (out ++ 91 :: (sepBy ps ++ [93])) w' ∧ OK5 b w w' := by
  obtain ⟨aa, ca, rfl⟩ := hrow.slice
  have na := hrow.2.1
  have hp := put_byte h 91 (by omega)
  have HH := (show Hid _ from And.intro hrow (And.intro hl (And.intro hf (And.intro hps hlen))))
  have hI := (show Hid _ from ih)
  clear hrow hl hf hps hlen ih h
  go_enter Tryz.func69, Tryz.ntmps69
  go_wp2_with fail
  refine hp.mono ?_
  rintro e w1 ⟨rfl, W1, hk1⟩
  have H1 := (show Hid _ from And.intro W1 hk1)
  clear hp W1 hk1
  go_wp2_with fail
  go_loopg [4, 5, 10] xs.length (fun gg _ _ i wr => ∃ k : Nat, k ≤ xs.length ∧ xs.length - k ≤ gg ∧ i = .int .i64 k ∧ Aside (Wr w0 b (out ++ [91] ++ sepBy (ps.take k)) wr) ∧ Aside (OK5 b w wr))
  case atStart =>
    refine ⟨0, Nat.zero_le _, by omega, rfl, ?_, H1.out.2⟩
    show Wr _ _ (out ++ [91] ++ []) _
    rw [List.append_nil]
    exact H1.out.1
  case round =>
    obtain ⟨k, hk, hgg, rfl, A, B⟩ := hrel
    by_cases hlt : k < xs.length
    · obtain ⟨hrow, hl, hf, hps, hlen⟩ := HH.out
      obtain ⟨b0, c', e1, hb0, _, hc1, hc2, _⟩ := hrow.cells (by omega)
      simp only [Value.slice.injEq, true_and] at e1
      obtain ⟨rfl, rfl⟩ := e1
      obtain ⟨⟨xv, xl, xf⟩, hx⟩ : ∃ x, xs[k]? = some x := ⟨_, List.getElem?_eq_getElem hlt⟩
      have WA := A.out
      obtain ⟨a0, a1, a2, a3, a4⟩ := (hrow.move fun c _ hl => ⟨trivial, WA.below.block c hl⟩).el hx
      have hlx : Lies n w0 xv xl xf := hl _ (List.mem_of_getElem? hx)
      have hfx : Fit n xv := hf _ (List.mem_of_getElem? hx)
      simp only at a0 a1 a2 a3 a4
      obtain ⟨al, cl, af, cf, rfl, rfl⟩ := hlx.slices
      have hpk : ps[k]? = some (printV (n + 1) xv) := by rw [hps, List.getElem?_map, List.getElem?_map, hx]; rfl
      have hst := sepBy_take hpk
      have hsl := sepBy_take_len ps (k + 1)
      rw [hst, List.length_append, List.length_append] at hsl
      have hcml : (cm k).length ≤ 1 := by unfold cm; split <;> simp
      obtain ⟨O, hO⟩ : ∃ O, O = Obj.cells #[.int .i64 xv.kind, .int .i64 xv.num, .string xv.text, .slice al xv.list.length cl, .slice af xv.fields.length cf] 31 := ⟨_, rfl⟩
      have hBa : Below wr.heap.size wr (wr.alloc O) := (Below.refl _ _).alloc (Nat.le_refl _) _
      have hO5 : OK5 b wr (wr.alloc O) := OK5.of_below hBa
      have hcm := comma_any (WA.same hBa) k (by omega) (by rw [List.length_append, List.length_append, List.length_singleton]; omega)
      rw [hO] at hcm
      have zk : (k : Int) < (xs.length : Int) := by omega
      have hbr : b < wr.heap.size := WA.bld.lt
      have H2 := (show Hid _ from And.intro hlx (And.intro hfx (And.intro hst (And.intro hsl (And.intro hO hO5)))))
      clear hrow hl hf hps hlen WA hlx hfx hpk hst hsl hcml hO hBa hO5 hx
      go_wp2_with fail
      refine hcm.mono ?_
      rintro e w2 ⟨rfl, W2, hk2⟩
      obtain ⟨hlx, hfx, hst, hsl, hO, hO5⟩ := H2.out
      rw [← hO] at hk2
      have r2 := hk2.row (k := wr.heap.size) (by rw [heap_alloc_new, hO]) (by omega) (by decide)
      obtain ⟨j0, j1, j2, j3, j4, jf⟩ := row5 r2
      have hcall := hI.out w0 b xv _ _ hlx hfx _ w2 W2 (by
        have := HH.out.2.2.2.2
        rw [List.length_append, List.length_append, List.length_append, List.length_singleton]
        omega)
      have hlt2 := lt_of_heap r2
      have H3 := (show Hid _ from hk2)
      clear hcm W2 hk2 r2 hlx hfx hst hsl hO hO5
      go_wp2_with fail
      refine hcall.mono ?_
      rintro e w3 ⟨rfl, W3, hk3⟩
      have H4 := (show Hid _ from And.intro W3 hk3)
      clear W3 hk3 hcall
      go_wp2_with fail
      go_roundg (xs.length - (k + 1))
      case measure => omega
      case rel =>
        obtain ⟨W3, hk3⟩ := H4.out
        obtain ⟨hlx, hfx, hst, hsl, hO, hO5⟩ := H2.out
        refine ⟨k + 1, by omega, by omega, by go_num, ?_, ((B.out.trans hO5).trans H3.out).trans hk3⟩
        show Wr _ _ (out ++ [91] ++ sepBy (ps.take (k + 1))) _
        rw [hst]
        simpa [List.append_assoc] using W3
    · have zk : ¬ (k : Int) < (xs.length : Int) := by omega
      obtain ⟨hrow, hl, hf, hps, hlen⟩ := HH.out
      have hk' : k = xs.length := by omega
      have htk : ps.take k = ps := List.take_of_length_le (by rw [hps]; simp; omega)
      have WA := A.out
      rw [htk] at WA
      have hp := put_byte WA 93 (by rw [List.length_append, List.length_append, List.length_singleton]; omega)
      clear hrow hl hf hps hlen WA htk
      go_wp2_with fail
      refine hp.mono ?_
      rintro e w2 ⟨rfl, W2, hk2⟩
      have H2 := (show Hid _ from And.intro W2 hk2)
      clear W2 hk2 hp
      go_wp2_with fail
      obtain ⟨W2, hk2⟩ := H2.out
      exact bodyPost_end (v := .tuple #[]) (by simp [results, Tryz.results69, go_sem]) rfl ⟨rfl, by simpa [List.append_assoc] using W2, B.out.trans hk2⟩
end Go.Proofs.YtnkoblhdbccbeaaGreatDoor

namespace Go.Proofs.YtnkoblhdbccbeaaGreatDoor
open Go.RowKit Go.Extern.Stop Go.Stop Go.Extern

def fieldL (n : Nat) (p : ByteArray × V) : List UInt8 := quoteL p.1.data.toList ++ 58 :: printV n p.2

set_option maxRecDepth 100000 in
set_option maxHeartbeats 4000000 in
theorem writeFields_any (n : Nat) (ih : WriteAt n)
    (w0 : World) (b : Nat) (xs : List Fl) (sl : Value) (hrow : RowAt (fun _ => True) w0 52 6 sl xs.length (encFs xs)) (hl : ∀ e ∈ xs, Lies n w0 e.v e.l e.f) (hf : ∀ e ∈ xs, e.name.size ≤ 1000000 ∧ Fit n e.v) (out : List UInt8) (w : World) (h : Wr w0 b out w)
    (ps : List (List UInt8)) (hps : ps = (xs.map Fl.pair).map (fieldL (n + 1))) (hlen : out.length + (sepBy ps).length + 2 ≤ 1000000000) :
    Calls Tryz.prog 70 #[.pointer (some ⟨b, 0, none⟩), sl] w fun e w' => e = .returned (.tuple #[]) ∧ Wr w0 b (out ++ 123 :: (sepBy ps ++ [125])) w' ∧ OK5 b w w' := by
  obtain ⟨aa, ca, rfl⟩ := hrow.slice
  have na := hrow.2.1
  have hp := put_byte h 123 (by omega)
  have HH := (show Hid _ from And.intro hrow (And.intro hl (And.intro hf (And.intro hps hlen))))
  have hI := (show Hid _ from ih)
  clear hrow hl hf hps hlen ih h
  go_enter Tryz.func70, Tryz.ntmps70
  go_wp2_with fail
  refine hp.mono ?_
  rintro e w1 ⟨rfl, W1, hk1⟩
  have H1 := (show Hid _ from And.intro W1 hk1)
  clear hp W1 hk1
  go_wp2_with fail
  go_loopg [4, 5, 10] xs.length (fun gg _ _ i wr => ∃ k : Nat, k ≤ xs.length ∧ xs.length - k ≤ gg ∧ i = .int .i64 k ∧ Aside (Wr w0 b (out ++ [123] ++ sepBy (ps.take k)) wr) ∧ Aside (OK5 b w wr))
  case atStart =>
    refine ⟨0, Nat.zero_le _, by omega, rfl, ?_, H1.out.2⟩
    show Wr _ _ (out ++ [123] ++ []) _
    rw [List.append_nil]
    exact H1.out.1
  case round =>
    obtain ⟨k, hk, hgg, rfl, A, B⟩ := hrel
    by_cases hlt : k < xs.length
    · obtain ⟨hrow, hl, hf, hps, hlen⟩ := HH.out
      obtain ⟨b0, c', e1, hb0, _, hc1, hc2, _⟩ := hrow.cells (by omega)
      simp only [Value.slice.injEq, true_and] at e1
      obtain ⟨rfl, rfl⟩ := e1
      obtain ⟨⟨xn, xv, xl, xf⟩, hx⟩ : ∃ x, xs[k]? = some x := ⟨_, List.getElem?_eq_getElem hlt⟩
      have WA := A.out
      obtain ⟨a0, a1, a2, a3, a4, a5⟩ := (hrow.move fun c _ hl => ⟨trivial, WA.below.block c hl⟩).fl hx
      have hlx : Lies n w0 xv xl xf := hl _ (List.mem_of_getElem? hx)
      have hfx : xn.size ≤ 1000000 ∧ Fit n xv := hf _ (List.mem_of_getElem? hx)
      simp only at a0 a1 a2 a3 a4 a5
      obtain ⟨al, cl, af, cf, rfl, rfl⟩ := hlx.slices
      have hpk : ps[k]? = some (fieldL (n + 1) (xn, xv)) := by rw [hps, List.getElem?_map, List.getElem?_map, hx]; rfl
      have hst := sepBy_take hpk
      have hsl := sepBy_take_len ps (k + 1)
      rw [hst, List.length_append, List.length_append] at hsl
      have hfl : (fieldL (n + 1) (xn, xv)).length = (quoteL xn.data.toList).length + 1 + (printV (n + 1) xv).length := by
        show (quoteL xn.data.toList ++ 58 :: printV (n + 1) xv).length = _
        rw [List.length_append, List.length_cons]; omega
      rw [hfl] at hsl
      obtain ⟨O, hO⟩ : ∃ O, O = Obj.cells #[.string xn, .int .i64 xv.kind, .int .i64 xv.num, .string xv.text, .slice al xv.list.length cl, .slice af xv.fields.length cf] 52 := ⟨_, rfl⟩
      have hBa : Below wr.heap.size wr (wr.alloc O) := (Below.refl _ _).alloc (Nat.le_refl _) _
      have hO5 : OK5 b wr (wr.alloc O) := OK5.of_below hBa
      have hcm := comma_any (WA.same hBa) k (by omega) (by rw [List.length_append, List.length_append, List.length_singleton]; omega)
      rw [hO] at hcm
      have zk : (k : Int) < (xs.length : Int) := by omega
      have hbr : b < wr.heap.size := WA.bld.lt
      have H2 := (show Hid _ from And.intro hlx (And.intro hfx (And.intro hst (And.intro hsl (And.intro hO hO5)))))
      clear hrow hl hf hps hlen WA hlx hfx hpk hst hsl hO hBa hO5 hx hfl
      go_wp2_with fail
      refine hcm.mono ?_
      rintro e w2 ⟨rfl, W2, hk2⟩
      obtain ⟨hlx, hfx, hst, hsl, hO, hO5⟩ := H2.out
      rw [← hO] at hk2
      have r2 := hk2.row (k := wr.heap.size) (by rw [heap_alloc_new, hO]) (by omega) (by decide)
      obtain ⟨j0, j1, j2, j3, j4, j5, jf⟩ := row6 r2
      have hlt2 := lt_of_heap r2
      have hqt := Quote_any xn (by have := hfx.1; omega) w2 W2.now.text.tabs
      have H3 := (show Hid _ from And.intro hk2 (And.intro W2 r2))
      clear hcm W2 hk2 r2 hlx hfx hst hsl hO hO5
      go_wp2_with fail
      refine hqt.mono ?_
      rintro e w3 ⟨rfl, hb3⟩
      obtain ⟨hk2, W2, r2⟩ := H3.out
      obtain ⟨hlx, hfx, hst, hsl, hO, hO5⟩ := H2.out
      have W3 := W2.same hb3
      have r3 := (hb3.block _ (lt_of_heap r2)).trans r2
      have hps1 := put_string W3 ⟨(quoteL xn.data.toList).toArray⟩ (quoteL xn.data.toList) rfl (by
        have := HH.out.2.2.2.2
        rw [List.length_append, List.length_append, List.length_append, List.length_singleton]
        omega)
      have H4 := (show Hid _ from And.intro hb3 r3)
      clear hqt hk2 W2 r2 hlx hfx hst hsl hO hO5 W3 r3 hb3 j0 j1 j2 j3 j4 j5 jf
      go_wp2_with fail
      refine hps1.mono ?_
      rintro e w4 ⟨rfl, W4, hk4⟩
      have hp5 := put_byte W4 58 (by
        have := HH.out.2.2.2.2
        have := H2.out.2.2.2.1
        simp only [List.length_append, List.length_singleton]
        omega)
      have H5 := (show Hid _ from hk4)
      clear hps1 W4 hk4
      go_wp2_with fail
      refine hp5.mono ?_
      rintro e w5 ⟨rfl, W5, hk5⟩
      obtain ⟨hb3, r3⟩ := H4.out
      have r5 := hk5.row (H5.out.row r3 (by omega) (by decide)) (by omega) (by decide)
      obtain ⟨j0, j1, j2, j3, j4, j5, jf⟩ := row6 r5
      have hlt5 := lt_of_heap r5
      have hcall := hI.out w0 b xv _ _ H2.out.1 H2.out.2.1.2 _ w5 W5 (by
        have := HH.out.2.2.2.2
        have := H2.out.2.2.2.1
        simp only [List.length_append, List.length_singleton]
        omega)
      have H6 := (show Hid _ from hk5)
      clear hp5 W5 hk5 r5 hb3 r3
      go_wp2_with fail
      refine hcall.mono ?_
      rintro e w6 ⟨rfl, W6, hk6⟩
      have H7 := (show Hid _ from And.intro W6 hk6)
      clear W6 hk6 hcall
      go_wp2_with fail
      go_roundg (xs.length - (k + 1))
      case measure => omega
      case rel =>
        obtain ⟨W6, hk6⟩ := H7.out
        obtain ⟨hlx, hfx, hst, hsl, hO, hO5⟩ := H2.out
        obtain ⟨hk2, W2, r2⟩ := H3.out
        obtain ⟨hb3, r3⟩ := H4.out
        refine ⟨k + 1, by omega, by omega, by go_num, ?_, (((((B.out.trans hO5).trans hk2).trans (OK5.of_below hb3)).trans H5.out).trans H6.out).trans hk6⟩
        show Wr _ _ (out ++ [123] ++ sepBy (ps.take (k + 1))) _
        rw [hst]
        simpa [List.append_assoc, fieldL] using W6
    · have zk : ¬ (k : Int) < (xs.length : Int) := by omega
      obtain ⟨hrow, hl, hf, hps, hlen⟩ := HH.out
      have hk' : k = xs.length := by omega
      have htk : ps.take k = ps := List.take_of_length_le (by rw [hps]; simp; omega)
      have WA := A.out
      rw [htk] at WA
      have hp := put_byte WA 125 (by rw [List.length_append, List.length_append, List.length_singleton]; omega)
      clear hrow hl hf hps hlen WA htk
      go_wp2_with fail
      refine hp.mono ?_
      rintro e w2 ⟨rfl, W2, hk2⟩
      have H2 := (show Hid _ from And.intro W2 hk2)
      clear W2 hk2 hp
      go_wp2_with fail
      obtain ⟨W2, hk2⟩ := H2.out
      exact bodyPost_end (v := .tuple #[]) (by simp [results, Tryz.results70, go_sem]) rfl ⟨rfl, by simpa [List.append_assoc] using W2, B.out.trans hk2⟩

/-- what one step of write prints. -/
def stepL (L F : List UInt8) (v : V) : List UInt8 :=
  if v.kind = 0 then wNull
  else if v.kind = 1 then (if v.num = 1 then wTrue else wFalse)
  else if v.kind = 2 then Lib.itoa v.num
  else if v.kind = 3 then quoteL v.text.data.toList
  else if v.kind = 4 then L
  else if v.kind = 5 then F
  else []
theorem printV_step (n : Nat) (v : V) : printV (n + 1) v = stepL (91 :: (sepBy (v.list.map (printV n)) ++ [93])) (123 :: (sepBy (v.fields.map (fieldL n)) ++ [125])) v := rfl

set_option maxRecDepth 100000 in
set_option maxHeartbeats 4000000 in
theorem write_step (L F : List UInt8) (w0 : World) (b : Nat) (v : V) (l f : Value) (hs : ∃ a1 n1 c1 a2 n2 c2, l = .slice a1 n1 c1 ∧ f = .slice a2 n2 c2) (hf : I64 v.num ∧ v.text.size ≤ 1000000) (out : List UInt8) (w : World) (h : Wr w0 b out w) (hlen : out.length + (stepL L F v).length ≤ 1000000000)
    (hL : v.kind = 4 → ∀ W, Wr w0 b out W → Calls Tryz.prog 69 #[.pointer (some ⟨b, 0, none⟩), l] W fun e w' => e = .returned (.tuple #[]) ∧ Wr w0 b (out ++ L) w' ∧ OK5 b W w')
    (hF : v.kind = 5 → ∀ W, Wr w0 b out W → Calls Tryz.prog 70 #[.pointer (some ⟨b, 0, none⟩), f] W fun e w' => e = .returned (.tuple #[]) ∧ Wr w0 b (out ++ F) w' ∧ OK5 b W w') :
    Calls Tryz.prog 34 #[.pointer (some ⟨b, 0, none⟩), .agg #[.int .i64 v.kind, .int .i64 v.num, .string v.text, l, f]] w fun e w' => e = .returned (.tuple #[]) ∧ Wr w0 b (out ++ stepL L F v) w' ∧ OK5 b w w' := by
  obtain ⟨a1, n1, c1, a2, n2, c2, rfl, rfl⟩ := hs
  obtain ⟨kd, num, text, ls, fs⟩ := v
  simp only at hf hL hF ⊢
  obtain ⟨P, hP⟩ : ∃ P, stepL L F ⟨kd, num, text, ls, fs⟩ = P := ⟨_, rfl⟩
  rw [hP] at hlen ⊢
  obtain ⟨O, hO⟩ : ∃ O, O = Obj.cells #[.int .i64 kd, .int .i64 num, .string text, .slice a1 n1 c1, .slice a2 n2 c2] 31 := ⟨_, rfl⟩
  have hBa : Below w.heap.size w (w.alloc O) := (Below.refl _ _).alloc (Nat.le_refl _) _
  have hO5 : OK5 b w (w.alloc O) := OK5.of_below hBa
  have W1 := h.same hBa
  unfold stepL at hP
  simp only at hP
  have HO := (show Hid _ from hO5)
  by_cases h0 : kd = 0
  · subst h0
    rw [if_pos rfl] at hP
    subst hP
    have hp := put_string W1 ⟨#[110, 117, 108, 108]⟩ wNull rfl hlen
    rw [hO] at hp HO
    clear h hBa hO5 W1 hL hF hf hlen hO
    go_enter Tryz.func34, Tryz.ntmps34
    go_wp2_with fail
    refine hp.mono ?_
    rintro e w2 ⟨rfl, W2, hk2⟩
    have H2 := (show Hid _ from And.intro W2 hk2)
    clear W2 hk2 hp
    go_wp2_with fail
    obtain ⟨W2, hk2⟩ := H2.out
    exact bodyPost_end (v := .tuple #[]) (by simp [results, Tryz.results34, go_sem]) rfl ⟨rfl, W2, HO.out.trans hk2⟩
  · rw [if_neg h0] at hP
    have e0 : (kd == 0) = false := by simp; omega
    by_cases h1 : kd = 1
    · subst h1
      rw [if_pos rfl] at hP
      obtain ⟨q, hq⟩ : ∃ q, (num == 1) = q := ⟨_, rfl⟩
      have hPq : (⟨(Lib.formatBool q).toArray⟩ : ByteArray).data.toList = P := by
        rw [← hP]
        cases q
        · rw [if_neg (by simpa using hq)]; rfl
        · rw [if_pos (by simpa using hq)]; rfl
      have hfb := fun W => Tryz.strconv_FormatBool q W
      have hp := put_string W1 _ P hPq hlen
      rw [hO] at hp HO
      obtain ⟨fb, hfbe⟩ : ∃ fb, (⟨(Lib.formatBool q).toArray⟩ : ByteArray) = fb := ⟨_, rfl⟩
      rw [hfbe] at hp
      simp only [hfbe] at hfb
      clear h hBa hO5 W1 hL hF hf hlen hO hP hPq hfbe e0 h0
      go_enter Tryz.func34, Tryz.ntmps34
      go_wp2_with fail
      refine (hfb _).mono ?_
      rintro e w3 ⟨rfl, rfl⟩
      go_wp2_with fail
      refine hp.mono ?_
      rintro e w2 ⟨rfl, W2, hk2⟩
      have H2 := (show Hid _ from And.intro W2 hk2)
      clear W2 hk2 hp
      go_wp2_with fail
      obtain ⟨W2, hk2⟩ := H2.out
      exact bodyPost_end (v := .tuple #[]) (by simp [results, Tryz.results34, go_sem]) rfl ⟨rfl, W2, HO.out.trans hk2⟩
    · rw [if_neg h1] at hP
      have e1 : (kd == 1) = false := by simp; omega
      by_cases h2 : kd = 2
      · subst h2
        rw [if_pos rfl] at hP
        have hfi := Tryz.strconv_FormatInt_10 num hf.1.1 hf.1.2 (w.alloc O) W1.now.text.pow
        rw [hP] at hfi
        have HW1 := (show Hid _ from And.intro W1 (And.intro hlen hO))
        rw [hO] at hfi HO
        clear h hBa hO5 W1 hL hF hf hlen hO hP e0 h0 e1 h1
        go_enter Tryz.func34, Tryz.ntmps34
        go_wp2_with fail
        refine hfi.mono ?_
        rintro e w3 ⟨rfl, j, os, rfl⟩
        obtain ⟨W1, hlen, hO⟩ := HW1.out
        rw [← hO]
        have hB := Lib.below_grow (w.alloc O).heap.size (w.alloc O) (Nat.le_refl _) j os
        have hp := put_string (W1.same hB) ⟨P.toArray⟩ P rfl hlen
        generalize Sort.grow ((w.alloc O).drewN j) os = W3 at *
        have H3 := (show Hid _ from hB)
        clear W1 hlen hB hfi hO
        go_wp2_with fail
        refine hp.mono ?_
        rintro e w2 ⟨rfl, W2, hk2⟩
        have H2 := (show Hid _ from And.intro W2 hk2)
        clear W2 hk2 hp
        go_wp2_with fail
        obtain ⟨W2, hk2⟩ := H2.out
        obtain ⟨W1, hlen, hO⟩ := HW1.out
        rw [← hO] at HO
        exact bodyPost_end (v := .tuple #[]) (by simp [results, Tryz.results34, go_sem]) rfl ⟨rfl, W2, (HO.out.trans (OK5.of_below H3.out)).trans hk2⟩
      · rw [if_neg h2] at hP
        have e2 : (kd == 2) = false := by simp; omega
        by_cases h3 : kd = 3
        · subst h3
          rw [if_pos rfl] at hP
          have hq := Quote_any text (by have := hf.2; omega) (w.alloc O) W1.now.text.tabs
          rw [hP] at hq
          have HW1 := (show Hid _ from And.intro W1 (And.intro hlen hO))
          rw [hO] at hq HO
          clear h hBa hO5 W1 hL hF hf hlen hO hP e0 h0 e1 h1 e2 h2
          go_enter Tryz.func34, Tryz.ntmps34
          go_wp2_with fail
          refine hq.mono ?_
          rintro e w3 ⟨rfl, hb3⟩
          obtain ⟨W1, hlen, hO⟩ := HW1.out
          rw [← hO] at hb3
          have hp := put_string (W1.same hb3) ⟨P.toArray⟩ P rfl hlen
          have H3 := (show Hid _ from hb3)
          clear W1 hlen hb3 hq hO
          go_wp2_with fail
          refine hp.mono ?_
          rintro e w2 ⟨rfl, W2, hk2⟩
          have H2 := (show Hid _ from And.intro W2 hk2)
          clear W2 hk2 hp
          go_wp2_with fail
          obtain ⟨W2, hk2⟩ := H2.out
          obtain ⟨W1, hlen, hO⟩ := HW1.out
          rw [← hO] at HO
          exact bodyPost_end (v := .tuple #[]) (by simp [results, Tryz.results34, go_sem]) rfl ⟨rfl, W2, (HO.out.trans (OK5.of_below H3.out)).trans hk2⟩
        · rw [if_neg h3] at hP
          have e3 : (kd == 3) = false := by simp; omega
          by_cases h4 : kd = 4
          · subst h4
            rw [if_pos rfl] at hP
            subst hP
            have hp := hL rfl _ W1
            rw [hO] at hp HO
            clear h hBa hO5 W1 hL hF hf hlen hO e0 h0 e1 h1 e2 h2 e3 h3
            go_enter Tryz.func34, Tryz.ntmps34
            go_wp2_with fail
            refine hp.mono ?_
            rintro e w2 ⟨rfl, W2, hk2⟩
            have H2 := (show Hid _ from And.intro W2 hk2)
            clear W2 hk2 hp
            go_wp2_with fail
            obtain ⟨W2, hk2⟩ := H2.out
            exact bodyPost_end (v := .tuple #[]) (by simp [results, Tryz.results34, go_sem]) rfl ⟨rfl, W2, HO.out.trans hk2⟩
          · rw [if_neg h4] at hP
            have e4 : (kd == 4) = false := by simp; omega
            by_cases h5 : kd = 5
            · subst h5
              rw [if_pos rfl] at hP
              subst hP
              have hp := hF rfl _ W1
              rw [hO] at hp HO
              clear h hBa hO5 W1 hL hF hf hlen hO e0 h0 e1 h1 e2 h2 e3 h3 e4 h4
              go_enter Tryz.func34, Tryz.ntmps34
              go_wp2_with fail
              refine hp.mono ?_
              rintro e w2 ⟨rfl, W2, hk2⟩
              have H2 := (show Hid _ from And.intro W2 hk2)
              clear W2 hk2 hp
              go_wp2_with fail
              obtain ⟨W2, hk2⟩ := H2.out
              exact bodyPost_end (v := .tuple #[]) (by simp [results, Tryz.results34, go_sem]) rfl ⟨rfl, W2, HO.out.trans hk2⟩
            · rw [if_neg h5] at hP
              have e5 : (kd == 5) = false := by simp; omega
              subst hP
              have HW1 := (show Hid _ from W1)
              rw [hO] at HO HW1
              clear h hBa hO5 W1 hL hF hf hlen hO h0 h1 h2 h3 h4 h5
              go_enter Tryz.func34, Tryz.ntmps34
              go_wp2_with fail
              refine bodyPost_end (v := .tuple #[]) (by simp [results, Tryz.results34, go_sem]) rfl ⟨rfl, ?_, HO.out⟩
              rw [List.append_nil]
              exact HW1.out

theorem writeList_none (w0 : World) (b : Nat) (out : List UInt8) (w : World) (h : Wr w0 b out w) (hlen : out.length + 2 ≤ 1000000000) :
    Calls Tryz.prog 69 #[.pointer (some ⟨b, 0, none⟩), .slice none 0 0] w fun e w' => e = .returned (.tuple #[]) ∧ Wr w0 b (out ++ 91 :: ([] ++ [93])) w' ∧ OK5 b w w' := by
  have hp := put_byte h 91 (by omega)
  clear h
  go_enter Tryz.func69, Tryz.ntmps69
  go_wp2_with fail
  refine hp.mono ?_
  rintro e w1 ⟨rfl, W1, hk1⟩
  have hp2 := put_byte W1 93 (by rw [List.length_append, List.length_singleton]; omega)
  have H1 := (show Hid _ from hk1)
  clear hp W1 hk1
  go_wp2_with fail
  refine wp_loop_rounds 1 ?_
  rw [rounds_succ]
  go_wp2_with fail
  refine hp2.mono ?_
  rintro e w2 ⟨rfl, W2, hk2⟩
  have H2 := (show Hid _ from And.intro W2 hk2)
  clear W2 hk2 hp2
  go_wp2_with fail
  obtain ⟨W2, hk2⟩ := H2.out
  exact bodyPost_end (v := .tuple #[]) (by simp [results, Tryz.results69, go_sem]) rfl ⟨rfl, by simpa [List.append_assoc] using W2, H1.out.trans hk2⟩
theorem writeFields_none (w0 : World) (b : Nat) (out : List UInt8) (w : World) (h : Wr w0 b out w) (hlen : out.length + 2 ≤ 1000000000) :
    Calls Tryz.prog 70 #[.pointer (some ⟨b, 0, none⟩), .slice none 0 0] w fun e w' => e = .returned (.tuple #[]) ∧ Wr w0 b (out ++ 123 :: ([] ++ [125])) w' ∧ OK5 b w w' := by
  have hp := put_byte h 123 (by omega)
  clear h
  go_enter Tryz.func70, Tryz.ntmps70
  go_wp2_with fail
  refine hp.mono ?_
  rintro e w1 ⟨rfl, W1, hk1⟩
  have hp2 := put_byte W1 125 (by rw [List.length_append, List.length_singleton]; omega)
  have H1 := (show Hid _ from hk1)
  clear hp W1 hk1
  go_wp2_with fail
  refine wp_loop_rounds 1 ?_
  rw [rounds_succ]
  go_wp2_with fail
  refine hp2.mono ?_
  rintro e w2 ⟨rfl, W2, hk2⟩
  have H2 := (show Hid _ from And.intro W2 hk2)
  clear W2 hk2 hp2
  go_wp2_with fail
  obtain ⟨W2, hk2⟩ := H2.out
  exact bodyPost_end (v := .tuple #[]) (by simp [results, Tryz.results70, go_sem]) rfl ⟨rfl, by simpa [List.append_assoc] using W2, H1.out.trans hk2⟩

theorem write_any : ∀ n, WriteAt n
  | 0 => by
    rintro w0 b v l f ⟨h1, h2, rfl, rfl⟩ hf out w h hlen
    rw [printV_step, h1, h2] at hlen ⊢
    refine write_step _ _ w0 b v _ _ ⟨_, _, _, _, _, _, rfl, rfl⟩ hf out w h hlen (fun hk W hW => ?_) (fun hk W hW => ?_)
    · refine writeList_none w0 b out W hW ?_
      simp only [stepL, hk] at hlen
      simp [sepBy] at hlen
      omega
    · refine writeFields_none w0 b out W hW ?_
      simp only [stepL, hk] at hlen
      simp [sepBy] at hlen
      omega
  | n + 1 => by
    rintro w0 b v l f hl hf out w h hlen
    obtain ⟨⟨es, e1, e2, e3⟩, ⟨fs, f1, f2, f3⟩⟩ := id hl
    rw [printV_step] at hlen ⊢
    refine write_step _ _ w0 b v _ _ hl.shape hf.here out w h hlen (fun hk W hW => ?_) (fun hk W hW => ?_)
    · refine writeList_any n (write_any n) w0 b es l e2 e3 (fun e he => hf.2.2.1 _ (by rw [← e1]; exact List.mem_map.2 ⟨e, he, rfl⟩)) out W hW _ (by rw [e1]) ?_
      simp only [stepL, hk] at hlen
      simp at hlen
      omega
    · refine writeFields_any n (write_any n) w0 b fs f f2 f3 (fun e he => hf.2.2.2 e.pair (by rw [← f1]; exact List.mem_map.2 ⟨e, he, rfl⟩)) out W hW _ (by rw [f1]) ?_
      simp only [stepL, hk] at hlen
      simp at hlen
      omega

set_option maxHeartbeats 1000000 in
/-- Print, of a value that lies in memory. -/
theorem Print_any (n : Nat) (v : V) (l f : Value) (w : World) (hE : JEnv w) (hl : Lies n w v l f) (hf : Fit n v) (hlen : (printV (n + 1) v).length ≤ 1000000000) :
    Calls Tryz.prog 19 #[.agg #[.int .i64 v.kind, .int .i64 v.num, .string v.text, l, f]] w fun e w' => e = .returned (.string ⟨(printV (n + 1) v).toArray⟩) ∧ Below w.heap.size w w' := by
  obtain ⟨al, cl, af, cf, rfl, rfl⟩ := hl.slices
  obtain ⟨P, hP⟩ : ∃ P, printV (n + 1) v = P := ⟨_, rfl⟩
  obtain ⟨O, hO⟩ : ∃ O, O = Obj.cells #[.int .i64 v.kind, .int .i64 v.num, .string v.text, .slice al v.list.length cl, .slice af v.fields.length cf] 31 := ⟨_, rfl⟩
  have hBa : Below w.heap.size w (w.alloc O) := (Below.refl _ _).alloc (Nat.le_refl _) _
  have hBb : Below w.heap.size w ((w.alloc O).alloc (.cells #[.pointer none, .slice none 0 0] 72)) := hBa.alloc hBa.size _
  have W0 : Wr w (w.alloc O).heap.size [] ((w.alloc O).alloc (.cells #[.pointer none, .slice none 0 0] 72)) := ⟨hE, hBb, hBa.size, Bld.new _⟩
  have hcall := write_any n w (w.alloc O).heap.size v _ _ hl hf [] _ W0 (by simpa using hlen)
  have hsz : (w.alloc O).heap.size = w.heap.size + 1 := by simp
  rw [hP] at hcall hlen ⊢
  rw [hsz, hO] at hcall
  clear W0 hBb hBa hE hl hf hlen hsz hP hO
  go_enter Tryz.func19, Tryz.ntmps19
  go_wp2_with fail
  refine hcall.mono ?_
  rintro e w2 ⟨rfl, W2, hk2⟩
  have hst := stringOf _ _ _ W2.bld
  have H2 := (show Hid _ from And.intro W2 hk2)
  clear hcall W2 hk2
  go_wp2_with fail
  refine hst.mono ?_
  rintro e w3 ⟨rfl, hb3⟩
  go_wp2_with fail
  go_ret
  obtain ⟨W2, hk2⟩ := H2.out
  exact ⟨rfl, W2.below.trans (hb3.mono (by omega))⟩
end Go.Proofs.YtnkoblhdbccbeaaGreatDoor

namespace Go.Proofs.YtnkoblhdbccbeaaGreatDoor
open Go.RowKit

theorem field1_any (q name : ByteArray) (v : V) (l f : Value) (w : World) (hs : ∃ a1 n1 c1 a2 n2 c2, l = .slice a1 n1 c1 ∧ f = .slice a2 n2 c2) :
    Calls Tryz.prog 103 #[.agg #[.string q, .int .i64 v.kind, .int .i64 v.num, .string v.text, l, f], .string name] w fun e w' => e = .returned (.int .i64 (cmpT q name)) ∧ Below w.heap.size w w' := by
  obtain ⟨a1, n1, c1, a2, n2, c2, rfl, rfl⟩ := hs
  go_enter Tryz.func103, Tryz.ntmps103
  go_wp2_with fail
  refine (Compare_any q name _).mono ?_
  rintro e w1 ⟨rfl, rfl⟩
  go_wp2_with fail
  go_ret
  exact ⟨rfl, (Below.refl _ _).alloc (Nat.le_refl _) _⟩
theorem entersField1 (args : Array Value) (w : World) : (callFunc 103 args).run Tryz.prog w = .ok (.enter 103 args) w := enters_of Tryz.func103 (by kernel_rfl) rfl args w

/-- how many names stand ahead of one. -/
def aheadN (name : ByteArray) : List (ByteArray × V) → Nat
  | [] => 0
  | f :: fs => if cmpT f.1 name < 0 then aheadN name fs + 1 else 0

set_option maxRecDepth 100000 in
set_option maxHeartbeats 2000000 in
theorem Search_any (n : Nat) (xs : List Fl) (sa : Value) (name : ByteArray) (w : World)
    (ha : RowAt (fun _ => True) w 52 6 sa xs.length (encFs xs)) (la : ∀ e ∈ xs, Lies n w e.v e.l e.f) (r : Nat) (p : Bool) (hr : r ≤ xs.length)
    (h1 : ∀ j x, j < r → xs[j]? = some x → cmpT x.name name < 0) (h2 : ∀ j x, r ≤ j → xs[j]? = some x → 0 ≤ cmpT x.name name) (hp : ∀ x, xs[r]? = some x → (cmpT x.name name == 0) = p) (hp0 : r = xs.length → p = false) :
    Calls Tryz.prog 102 #[sa, .string name, .func (.func 103) #[] #[]] w fun e w' => e = .returned (.tuple #[.int .i64 (r : Int), .bool p]) ∧ Below w.heap.size w w' := by
  obtain ⟨aa, ca, rfl⟩ := ha.slice
  have na := ha.2.1
  have eF := entersField1
  have HH := (show Hid _ from And.intro h1 (And.intro h2 (And.intro hp hp0)))
  clear h1 h2 hp hp0
  go_enter Tryz.func102, Tryz.ntmps102
  go_wp2
  go_loopg [9, 10, 11] xs.length (fun gg i j _ wr => ∃ a b : Nat, a ≤ r ∧ r ≤ b ∧ b ≤ xs.length ∧ b - a ≤ gg ∧ i = .int .i64 a ∧ j = .int .i64 b ∧ Aside (Below w.heap.size w wr))
  case atStart => exact ⟨0, xs.length, Nat.zero_le _, hr, Nat.le_refl _, by omega, rfl, rfl, Below.refl _ w⟩
  case round =>
    obtain ⟨a, b, hra, hrb, hbl, hgg, rfl, rfl, BW⟩ := hrel
    by_cases hlt : a < b
    · have zk : (a : Int) < (b : Int) := by omega
      obtain ⟨m, hm⟩ : ∃ m : Nat, ((a : Int) + (b : Int)) / 2 = (m : Int) := ⟨(a + b) / 2, by omega⟩
      have hma : a ≤ m := by omega
      have hmb : m < b := by omega
      obtain ⟨b0, c', e1, hb0, _, hc1, hc2, _⟩ := ha.cells (by omega)
      simp only [Value.slice.injEq, true_and] at e1
      obtain ⟨rfl, rfl⟩ := e1
      obtain ⟨⟨xn, xv, xl, xf⟩, hx⟩ : ∃ x, xs[m]? = some x := ⟨_, List.getElem?_eq_getElem (by omega)⟩
      have hmv : ∀ b, True → b < w.heap.size → True ∧ wr.heap[b]? = w.heap[b]? := fun b _ h => ⟨trivial, BW.out.block b h⟩
      obtain ⟨a0, a1, a2, a3, a4, a5⟩ := (ha.move hmv).fl hx
      have hlx : Lies n wr xv xl xf := (la _ (List.mem_of_getElem? hx)).below BW.out
      simp only at a0 a1 a2 a3 a4 a5
      obtain ⟨al, cl, af, cf, rfl, rfl⟩ := hlx.slices
      have hcall := field1_any xn name xv (.slice al xv.list.length cl) (.slice af xv.fields.length cf) wr ⟨_, _, _, _, _, _, rfl, rfl⟩
      have zm : (m : Int) < (xs.length : Int) := by omega
      have HX := (show Hid _ from hx)
      obtain ⟨c, hc⟩ : ∃ c, cmpT xn name = c := ⟨_, rfl⟩
      have HC := (show Hid _ from hc)
      rw [hc] at hcall
      clear hx hmv hlx la ha hc
      by_cases hc0 : c < 0
      · have hnr : m + 1 ≤ r := by
          rcases Nat.lt_or_ge m r with h | h
          · omega
          · have h' := HH.out.2.1 m _ h HX.out
            simp only at h'
            rw [HC.out] at h'
            omega
        go_wp2_with fail
        refine hcall.mono ?_
        rintro e w' ⟨rfl, hb'⟩
        go_wp2
        go_roundg (b - (m + 1))
        case measure => omega
        case rel => exact ⟨m + 1, b, by omega, by omega, by omega, by omega, by go_num, rfl, BW.out.trans (hb'.mono BW.out.size)⟩
      · have hnr : r ≤ m := by
          rcases Nat.lt_or_ge m r with h | h
          · exact absurd (by rw [← HC.out]; exact HH.out.1 m _ h HX.out) hc0
          · omega
        go_wp2_with fail
        refine hcall.mono ?_
        rintro e w' ⟨rfl, hb'⟩
        go_wp2
        go_roundg (m - a)
        case measure => omega
        case rel => exact ⟨a, m, by omega, by omega, by omega, by omega, rfl, rfl, BW.out.trans (hb'.mono BW.out.size)⟩
    · obtain rfl : r = a := by omega
      obtain rfl : b = r := by omega
      have zk : ¬ (b : Int) < (b : Int) := by omega
      by_cases hz : b < xs.length
      · obtain ⟨b0, c', e1, hb0, _, hc1, hc2, _⟩ := ha.cells (by omega)
        simp only [Value.slice.injEq, true_and] at e1
        obtain ⟨rfl, rfl⟩ := e1
        obtain ⟨⟨xn, xv, xl, xf⟩, hx⟩ : ∃ x, xs[b]? = some x := ⟨_, List.getElem?_eq_getElem (by omega)⟩
        have hmv : ∀ b, True → b < w.heap.size → True ∧ wr.heap[b]? = w.heap[b]? := fun b _ h => ⟨trivial, BW.out.block b h⟩
        obtain ⟨a0, a1, a2, a3, a4, a5⟩ := (ha.move hmv).fl hx
        have hlx : Lies n wr xv xl xf := (la _ (List.mem_of_getElem? hx)).below BW.out
        simp only at a0 a1 a2 a3 a4 a5
        obtain ⟨al, cl, af, cf, rfl, rfl⟩ := hlx.slices
        have hcall := field1_any xn name xv (.slice al xv.list.length cl) (.slice af xv.fields.length cf) wr ⟨_, _, _, _, _, _, rfl, rfl⟩
        have hpx := HH.out.2.2.1 _ hx
        simp only at hpx
        obtain ⟨c, hc⟩ : ∃ c, cmpT xn name = c := ⟨_, rfl⟩
        rw [hc] at hcall hpx
        have zm : (b : Int) < (xs.length : Int) := by omega
        clear hx hmv hlx la ha hc
        go_wp2_with fail
        refine hcall.mono ?_
        rintro e w' ⟨rfl, hb'⟩
        go_wp2
        go_ret2
        exact ⟨by rw [← hpx]; rfl, BW.out.trans (hb'.mono BW.out.size)⟩
      · have zm : ¬ (b : Int) < (xs.length : Int) := by omega
        have hpf := HH.out.2.2.2 (by omega)
        subst hpf
        clear la ha
        go_wp2_with fail
        go_ret2
        exact ⟨rfl, BW.out⟩
end Go.Proofs.YtnkoblhdbccbeaaGreatDoor
