/-
  The program's reader of JSON: fields. Conditions: as stated (texts of at most 4096 bytes).
  The program's reader of JSON: objects. Conditions: as stated (texts of at most 4096 bytes).
-/
import Derived.Test.YtnkoblhdbccbeaaGreatDoorU14
import Derived.Test.YtnkoblhdbccbeaaGreatDoorU11
namespace Go.Proofs.YtnkoblhdbccbeaaGreatDoor
open Go.RowKit Go.Extern.Stop Go.Stop Go.Extern

/-- all that was there is as it was, but for two blocks. -/
structure KeptF (b : Nat) (o : Option Nat) (w w' : World) : Prop where
  os : w'.os = w.os
  tape : w'.tape = w.tape
  output : w'.output = w.output
  size : w.heap.size ≤ w'.heap.size
  block : ∀ k, k < w.heap.size → k ≠ b → some k ≠ o → w'.heap[k]? = w.heap[k]?
theorem KeptF.of_kept {b : Nat} {o : Option Nat} {w w' : World} (h : Kept b w w') : KeptF b o w w' := ⟨h.os, h.tape, h.output, h.size, fun k hk hb _ => h.block k hk hb⟩
theorem KeptF.trans {b : Nat} {o : Option Nat} {x y z : World} (h : KeptF b o x y) (k : KeptF b o y z) : KeptF b o x z :=
  ⟨k.os.trans h.os, k.tape.trans h.tape, k.output.trans h.output, Nat.le_trans h.size k.size, fun i hi hb ho => (k.block i (Nat.lt_of_lt_of_le hi h.size) hb ho).trans (h.block i hi hb ho)⟩
theorem KeptF.of_grown {b : Nat} {o : Option Nat} {w w' : World} (h : w.grownBy w' o) : KeptF b o w w' := ⟨h.os, h.tape, h.output, h.size, fun k hk _ ho => h.block k hk ho⟩

/-- fields that grow. -/
structure GrowsFJ (d : Nat) (W : World) (B : Nat) (s : Value) (es : List Fl) : Prop where
  own : W.ownsRow (B + 1) 52 6 s es.length (encFs es)
  rep : ∀ e ∈ es, Rep (fun b => B < b ∧ s.ownBlock ≠ some b) d W e.v e.l e.f
theorem GrowsFJ.move {d B : Nat} {W W' : World} {s : Value} {es : List Fl} (h : GrowsFJ d W B s es) (hm : ∀ b, B < b → b < W.heap.size → W'.heap[b]? = W.heap[b]?) : GrowsFJ d W' B s es :=
  ⟨ownsRow_move (fun b hb hl => ⟨(h.own.lt b hb).1, hm b (by have := (h.own.lt b hb).1; omega) hl⟩) h.own, fun e he => (h.rep e he).move fun b hb hl => ⟨hb, hm b hb.1 hl⟩⟩
theorem GrowsFJ.ins {d B j : Nat} {W3 : World} {sl v' : Value} {es : List Fl} {nm : ByteArray} {x : V} {l f : Value} {W2 : World} (h : GrowsFJ d W2 B sl es) (hrep : Rep (fun b => B < b ∧ sl.ownBlock ≠ some b) d W2 x l f) (hj : j ≤ es.length)
    (hown : W3.ownsRow (B + 1) 52 6 v' (es.length + 1) (encFs (es.take j ++ ⟨nm, x, l, f⟩ :: es.drop j))) (hg : W2.grownBy W3 sl.ownBlock) (hv : sl.ownBlock = v'.ownBlock ∨ ∃ g, v'.ownBlock = some g ∧ W2.heap.size ≤ g) : GrowsFJ d W3 B v' (es.take j ++ ⟨nm, x, l, f⟩ :: es.drop j) := by
  have hm : ∀ b, (B < b ∧ sl.ownBlock ≠ some b) → b < W2.heap.size → (B < b ∧ v'.ownBlock ≠ some b) ∧ W3.heap[b]? = W2.heap[b]? := by
    intro b h1 h2
    refine ⟨⟨h1.1, ?_⟩, hg.block b h2 (fun e => h1.2 e.symm)⟩
    rcases hv with e | ⟨g, e, hge⟩
    · rw [← e]; exact h1.2
    · rw [e]
      intro e2
      have := Option.some.inj e2
      omega
  refine ⟨?_, ?_⟩
  · have : (es.take j ++ (⟨nm, x, l, f⟩ : Fl) :: es.drop j).length = es.length + 1 := by
      rw [List.length_append, List.length_cons, List.length_take, List.length_drop]; omega
    rw [this]; exact hown
  · intro e he
    rcases List.mem_append.1 he with he | he
    · exact (h.rep e (List.mem_of_mem_take he)).move hm
    · rcases List.mem_cons.1 he with rfl | he
      · exact hrep.move hm
      · exact (h.rep e (List.mem_of_mem_drop he)).move hm

/-- what is answered for a field. -/
def AnsM (w0 : World) (b : Nat) (s : ByteArray) (n : Nat) (W : World) (B : Nat) (sl : Value) (m : Nat) (r : Except Int (List (ByteArray × V) × List UInt8)) (e : Ending) (w' : World) : Prop :=
  KeptF b sl.ownBlock W w' ∧
  match r with
  | .error c => ∃ x, e = .returned (.tuple #[.slice none 0 0, x]) ∧ Flt c w' x
  | .ok r => ∃ sl' fs', e = .returned (.tuple #[sl', .nilIface]) ∧ fs'.map Fl.pair = r.1 ∧ fs'.length = m + 1 ∧ GrowsFJ n w' B sl' fs' ∧ ∃ k', Rd w0 b s k' w' ∧ s.data.toList.drop k' = r.2

theorem AnsM.err {w0 W w' : World} {b n B m : Nat} {s : ByteArray} {sl : Value} {c : Int} {x : Value} {r : Except Int (List (ByteArray × V) × List UInt8)} (K : Kept b W w') (hx : Flt c w' x) (hr : r = .error c) : AnsM w0 b s n W B sl m r (.returned (.tuple #[.slice none 0 0, x])) w' := by
  subst hr
  exact ⟨KeptF.of_kept K, x, rfl, hx⟩

def putP (nm : ByteArray) (ps : List (ByteArray × V)) (r : Except Int (V × List UInt8)) : Except Int (List (ByteArray × V) × List UInt8) :=
  match r with
  | .error e => .error e
  | .ok x => .ok (setF nm x.1 ps, x.2)

set_option maxRecDepth 100000 in
set_option maxHeartbeats 8000000 in
theorem field_any (n : Nat) (D : Int) (hD : 1 ≤ D) (hD2 : D ≤ 100) (ih : ValueAt n (D + 1)) {w0 w : World} {b k : Nat} {s : ByteArray} (R : Rd w0 b s k w) {B : Nat} (hbB : b ≤ B) (hBw : B < w.heap.size) {sl : Value} {fs : List Fl} (G : GrowsFJ n w B sl fs) (hri : Rises (fs.map Fl.pair)) (hlen : fs.length ≤ 4096) :
    Calls Tryz.prog 80 #[.pointer (some ⟨b, 0, none⟩), sl, .int .i64 D] w (AnsM w0 b s n w B sl fs.length (fieldP (valueP n) (fs.map Fl.pair) (s.data.toList.drop k))) := by
  obtain ⟨RR, hRR⟩ : ∃ r, fieldP (valueP n) (fs.map Fl.pair) (s.data.toList.drop k) = r := ⟨_, rfl⟩
  rw [hRR]
  obtain ⟨al, cl, rfl⟩ := ownsRow_slice G.own
  have hbl := blanks_any R
  have HW := (show Hid _ from And.intro hRR (And.intro G (And.intro hri hlen)))
  clear hRR R G hri hlen
  go_enter Tryz.func80, Tryz.ntmps80
  go_wp2_with fail
  refine hbl.mono ?_
  rintro e w1 ⟨rfl, K1, k1, _, R1, hd1⟩
  obtain ⟨rq, hrq⟩ : ∃ r, readL (s.data.toList.drop k1) = r := ⟨_, rfl⟩
  have hq := quoted_any R1 hrq
  rw [hd1] at hq hrq
  have H1 := (show Hid _ from And.intro K1 hrq)
  clear hbl K1 hrq hd1 R1
  go_wp2_with fail
  refine hq.mono ?_
  rintro e w2 ⟨K2, h2⟩
  clear hq
  cases rq with
  | none =>
    obtain ⟨x, rfl, hx⟩ := h2
    obtain ⟨u, z, rfl⟩ := hx.iface
    have HX := (show Hid _ from And.intro hx K2)
    clear hx K2
    go_wp2_with fail
    go_ret2
    obtain ⟨K1, hrq⟩ := H1.out
    obtain ⟨hx, K2⟩ := HX.out
    refine AnsM.err (K1.trans K2) hx ?_
    rw [← HW.out.1]
    unfold fieldP
    rw [hrq]
  | some rq =>
    obtain ⟨rfl, k2, R2, hd2⟩ := h2
    obtain ⟨nm, hnm⟩ : ∃ nm : ByteArray, (⟨rq.1.toArray⟩ : ByteArray) = nm := ⟨_, rfl⟩
    obtain ⟨hRR, G, hri, hlen⟩ := HW.out
    obtain ⟨K1, hrq⟩ := H1.out
    have K12 := K1.trans K2
    have G2 : GrowsFJ n w2 B (.slice al fs.length cl) fs := G.move fun c hc hl => K12.block c hl (by omega)
    obtain ⟨p, hp⟩ : ∃ p, (getF nm (fs.map Fl.pair)).isSome = p := ⟨_, rfl⟩
    have hse := Search_is n fs (.slice al fs.length cl) nm w2 hp ⟨ownsRow_move (fun _ _ _ => ⟨Nat.zero_le _, rfl⟩) G2.own, by omega, fun _ _ => trivial⟩ (fun e he => (G2.rep e he).lies) hri
    obtain ⟨j, hj⟩ : ∃ j, aheadN nm (fs.map Fl.pair) = j := ⟨_, rfl⟩
    rw [hj] at hse
    rw [hnm]
    have H2 := (show Hid _ from And.intro K12 (And.intro R2 (And.intro hd2 (And.intro hnm (And.intro G2 (And.intro hp hj))))))
    clear K1 hrq K12 R2 hd2 hnm G2 hp hj hRR G hri hlen K2
    go_wp2_with fail
    refine hse.mono ?_
    rintro e w3 ⟨rfl, hb3⟩
    clear hse
    cases p
    · obtain ⟨K12, R2, hd2, hnm, G2, hp, hj⟩ := H2.out
      have R3 := R2.same hb3
      obtain ⟨q, hq⟩ : ∃ q, decide (hd (skip (s.data.toList.drop k2)) = (58 : UInt8).toNat) = q := ⟨_, rfl⟩
      have hmk := mark_one R3 58 (by decide) hq
      have H3 := (show Hid _ from And.intro hb3 hq)
      clear K12 R2 hd2 hnm G2 hp hj R3 hb3 hq
      go_wp2_with fail
      refine hmk.mono ?_
      rintro e w4 ⟨rfl, K4, k4, R4, hd4⟩
      clear hmk
      cases q
      · have hfl := fail_any R4 1 rfl
        have H4 := (show Hid _ from K4)
        clear R4 hd4 K4
        go_wp2_with fail
        refine hfl.mono ?_
        rintro e w5 ⟨x, rfl, hx, hb5⟩
        obtain ⟨u, z, rfl⟩ := hx.iface
        clear hfl
        go_wp2_with fail
        go_ret2
        obtain ⟨hRR, G, hri, hlen⟩ := HW.out
        obtain ⟨K1, hrq⟩ := H1.out
        obtain ⟨K12, R2, hd2, hnm, G2, hp, hj⟩ := H2.out
        obtain ⟨hb3, hq⟩ := H3.out
        refine AnsM.err (((K12.trans (Kept.of_below hb3)).trans H4.out).trans (Kept.of_below hb5)) hx ?_
        rw [← hRR]
        unfold fieldP
        rw [hrq]
        simp only [hnm, hp, ← hd2]
        rw [if_neg (by decide), if_neg (show ¬ hd (skip (s.data.toList.drop k2)) = 58 from of_decide_eq_false hq)]
      · have hcall := ih w0 b s k4 w4 R4
        have hd4' : s.data.toList.drop k4 = (skip (s.data.toList.drop k2)).drop 1 := hd4
        obtain ⟨rv, hrv⟩ : ∃ r, valueP n (s.data.toList.drop k4) = r := ⟨_, rfl⟩
        rw [hrv] at hcall
        have hval : RR = putP nm (fs.map Fl.pair) rv := by
          obtain ⟨hRR, G, hri, hlen⟩ := HW.out
          obtain ⟨K1, hrq⟩ := H1.out
          obtain ⟨K12, R2, hd2, hnm, G2, hp, hj⟩ := H2.out
          obtain ⟨hb3, hq⟩ := H3.out
          rw [← hRR]
          unfold fieldP
          rw [hrq]
          simp only [hnm, hp, ← hd2]
          rw [if_neg (by decide), if_pos (show hd (skip (s.data.toList.drop k2)) = 58 from of_decide_eq_true hq), ← hd4', hrv]
          rfl
        have H4 := (show Hid _ from And.intro K4 hval)
        clear R4 hd4 hd4' K4 hval hrv ih
        go_wp2_with fail
        refine hcall.mono ?_
        rintro e w5 ⟨K5, h5⟩
        clear hcall
        cases rv with
        | error c =>
          obtain ⟨x, rfl, hx⟩ := h5
          obtain ⟨u, z, rfl⟩ := hx.iface
          have H5 := (show Hid _ from And.intro hx K5)
          clear hx K5
          go_wp2_with fail
          go_ret2
          obtain ⟨hx, K5⟩ := H5.out
          obtain ⟨K4, hval⟩ := H4.out
          obtain ⟨hb3, hq⟩ := H3.out
          obtain ⟨K12, R2, hd2, hnm, G2, hp, hj⟩ := H2.out
          have hA := (Below.refl w5.heap.size w5).alloc (Nat.le_refl _) (.cells #[.int .i64 0, .int .i64 0, .string ⟨#[]⟩, .slice none 0 0, .slice none 0 0] 31)
          exact AnsM.err ((((K12.trans (Kept.of_below hb3)).trans K4).trans K5).trans (Kept.of_below hA)) (hx.below hA) hval
        | ok rv =>
          obtain ⟨l, f, rfl, hrx, k5, R5, hd5⟩ := h5
          obtain ⟨bl, dl, bf, df, rfl, rfl⟩ := hrx.slices
          obtain ⟨x, rest⟩ := rv
          simp only at hrx hd5 ⊢
          obtain ⟨hRR, G, hri, hlen⟩ := HW.out
          obtain ⟨K4, hval⟩ := H4.out
          obtain ⟨hb3, hq⟩ := H3.out
          obtain ⟨K12, R2, hd2, hnm, G2, hp, hj⟩ := H2.out
          have K14 : Kept b w w4 := (K12.trans (Kept.of_below hb3)).trans K4
          have K15 : Kept b w w5 := K14.trans K5
          have hG5 : GrowsFJ n w5 B (.slice al fs.length cl) fs := G.move fun c hc hl => K15.block c hl (by omega)
          obtain ⟨O, hO⟩ : ∃ O, O = Obj.cells #[.int .i64 x.kind, .int .i64 x.num, .string x.text, .slice bl x.list.length dl, .slice bf x.fields.length df] 31 := ⟨_, rfl⟩
          obtain ⟨O6, hO6⟩ : ∃ O, O = Obj.cells #[.string nm, .int .i64 x.kind, .int .i64 x.num, .string x.text, .slice bl x.list.length dl, .slice bf x.fields.length df] 52 := ⟨_, rfl⟩
          have hA : Below w5.heap.size w5 ((w5.alloc O).alloc O6) := ((Below.refl _ _).alloc (Nat.le_refl _) _).alloc (by simp) _
          have hG6 : GrowsFJ n ((w5.alloc O).alloc O6) B (.slice al fs.length cl) fs := hG5.move fun c _ hl => hA.block c hl
          have hrow6 : ((w5.alloc O).alloc O6).heap[w5.heap.size + 1]? = some (.cells (Fl.enc ⟨nm, x, .slice bl x.list.length dl, .slice bf x.fields.length df⟩).toArray 52 (0, 0)) := by
            rw [heap_alloc2_new, hO6]; rfl
          have hw45 := K5.size
          have hjl : j ≤ fs.length := by have := aheadN_le nm (fs.map Fl.pair); rw [hj, List.length_map] at this; exact this
          have hown5 : ∀ c, (Value.slice al fs.length cl).ownBlock = some c → c < w.heap.size := fun c e => (G.own.lt c e).2
          have hw15 := K15.size
          have hone : ∀ u ∈ encFs fs, u.oneCell' = true := encFs_one fun e he => (G.rep e he).shape
          have hone2 : ∀ u ∈ Fl.enc ⟨nm, x, .slice bl x.list.length dl, .slice bf x.fields.length df⟩, u.oneCell' = true := by
            intro u hu
            simp only [Fl.enc, List.mem_cons, List.not_mem_nil, or_false] at hu
            rcases hu with rfl | rfl | rfl | rfl | rfl | rfl <;> rfl
          have hins := Insert_own fs (.slice al fs.length cl) (B + 1) (w5.heap.size + 1) j ⟨nm, x, .slice bl x.list.length dl, .slice bf x.fields.length df⟩ ((w5.alloc O).alloc O6) hG6.own (by simp; omega) hone hone2 hjl (by omega) (fun e => by have := hown5 _ e; omega) hrow6
          rw [hO, hO6] at hins
          have H5 := (show Hid _ from And.intro hrx (And.intro R5 (And.intro hd5 (And.intro K14 (And.intro K15 (And.intro hG6 (And.intro hA (And.intro hO (And.intro hO6 (And.intro hjl (And.intro hown5 K5)))))))))))
          clear hrx R5 hd5 hRR G hri hlen K4 hval hb3 hq K12 R2 hd2 hnm G2 hp hj K14 K15 hG5 hA hG6 hrow6 hjl hown5 hone hone2 K5 hO hO6
          go_wp2_with fail
          refine hins.mono ?_
          rintro e w6 ⟨v', rfl, hown6, hgr6, hlie6⟩
          obtain ⟨av, cv, rfl⟩ := ownsRow_slice hown6
          have H6 := (show Hid _ from And.intro hown6 (And.intro hgr6 hlie6))
          clear hown6 hgr6 hlie6 hins
          go_wp2_with fail
          go_ret2
          obtain ⟨hown6, hgr6, hlie6⟩ := H6.out
          obtain ⟨hrx, R5, hd5, K14, K15, hG6, hA, hO, hO6, hjl, hown5, K5⟩ := H5.out
          obtain ⟨hRR, G, hri, hlen⟩ := HW.out
          obtain ⟨K4, hval⟩ := H4.out
          obtain ⟨K12, R2, hd2, hnm, G2, hp, hj⟩ := H2.out
          rw [← hO, ← hO6] at hgr6 hlie6
          have hrx6 : Rep (fun c => B < c ∧ (Value.slice al fs.length cl).ownBlock ≠ some c) n ((w5.alloc O).alloc O6) x (.slice bl x.list.length dl) (.slice bf x.fields.length df) := hrx.move fun c hc hl => by
            have h1 := K14.size
            refine ⟨⟨by omega, fun e => ?_⟩, hA.block c hl⟩
            have := hown5 c e
            omega
          have hG' := hG6.ins hrx6 hjl hown6 hgr6 hlie6
          have K16 : KeptF b (Value.slice al fs.length cl).ownBlock w w6 := (KeptF.of_kept (K15.trans (Kept.of_below hA))).trans (KeptF.of_grown hgr6)
          have hbs : b < w5.heap.size := lt_of_heap R5.rd
          have hbo : some b ≠ (Value.slice al fs.length cl).ownBlock := fun e => by
            have := (G.own.lt b e.symm).1
            omega
          have R6 : Rd w0 b s k5 w6 := by
            have hlo := R5.le
            have hsz := R5.below.size
            have hb56 : Below w0.heap.size w5 w6 := (hA.mono hsz).trans ⟨hgr6.os, hgr6.tape, hgr6.output, hgr6.size, fun c hc => hgr6.block c (by have := hA.size; omega) (fun e => by
              have := (G.own.lt c e.symm).1
              omega)⟩
            exact ⟨R5.env, R5.below.trans hb56, R5.le, (hgr6.block b (by have := hA.size; omega) hbo).trans ((hA.block b hbs).trans R5.rd), R5.hk, R5.hs⟩
          rw [hval]
          refine ⟨K16, _, _, rfl, ?_, ?_, hG', k5, R6, hd5⟩
          · show _ = setF nm x (fs.map Fl.pair)
            have hgn : getF nm (fs.map Fl.pair) = none := by
              cases h : getF nm (fs.map Fl.pair) with
              | none => rfl
              | some y => rw [h] at hp; cases hp
            rw [set_ahead nm x _ hgn, hj, List.map_append, List.map_cons, List.map_take, List.map_drop]
            rfl
          · rw [List.length_append, List.length_cons, List.length_take, List.length_drop]; omega
    · obtain ⟨K12, R2, hd2, hnm, G2, hp, hj⟩ := H2.out
      have hfl := fail_any (R2.same hb3) 5 rfl
      have H3 := (show Hid _ from hb3)
      clear K12 R2 hd2 hnm G2 hp hj hb3
      go_wp2_with fail
      refine hfl.mono ?_
      rintro e w5 ⟨x, rfl, hx, hb5⟩
      obtain ⟨u, z, rfl⟩ := hx.iface
      clear hfl
      go_wp2_with fail
      go_ret2
      obtain ⟨hRR, G, hri, hlen⟩ := HW.out
      obtain ⟨K1, hrq⟩ := H1.out
      obtain ⟨K12, R2, hd2, hnm, G2, hp, hj⟩ := H2.out
      refine AnsM.err ((K12.trans (Kept.of_below H3.out)).trans (Kept.of_below hb5)) hx ?_
      rw [← hRR]
      unfold fieldP
      rw [hrq]
      simp only [hnm, hp]
      rfl
end Go.Proofs.YtnkoblhdbccbeaaGreatDoor

namespace Go.Proofs.YtnkoblhdbccbeaaGreatDoor
open Go.RowKit Go.Extern.Stop Go.Stop Go.Extern

def liftO (r : Except Int (List (ByteArray × V) × List UInt8)) : Except Int (V × List UInt8) :=
  match r with
  | .error e => .error e
  | .ok r => .ok (objV r.1, r.2)

theorem field_rises {g : List UInt8 → Except Int (V × List UInt8)} {fs : List (ByteArray × V)} {l : List UInt8} {x : List (ByteArray × V) × List UInt8} (h : fieldP g fs l = .ok x) (hr : Rises fs) : Rises x.1 := by
  unfold fieldP at h
  split at h
  · cases h
  · split at h
    · cases h
    · split at h
      · split at h
        · cases h
        · cases h
          exact rises_set _ _ hr
      · cases h

theorem Flt.setc {c : Int} {w : World} {x : Value} {B T o : Nat} {cs : Array Value} (h : Flt c w x) (hB : w.heap[B]? = some (.cells cs T (0, 0))) (hT : T ≠ 86) (v : Value) : Flt c (w.setCell ⟨B, o, none⟩ v) x := by
  obtain ⟨ps, h⟩ := h
  refine ⟨ps, h.kept fun b cs' hb => Below.heap_setCell _ _ _ _ fun e => ?_⟩
  have e : b = B := e
  rw [e, hB] at hb
  cases hb
  exact hT rfl

theorem Kept.setc {b B o : Nat} {w w' : World} (h : Kept b w w') (hB : w.heap.size ≤ B) (v : Value) : Kept b w (w'.setCell ⟨B, o, none⟩ v) := by
  have h2 : Kept B w' (w'.setCell ⟨B, o, none⟩ v) := Kept.set w'
  exact ⟨h2.os.trans h.os, h2.tape.trans h.tape, h2.output.trans h.output, Nat.le_trans h.size h2.size, fun k hk hb => (h2.block k (Nat.lt_of_lt_of_le hk h.size) (by omega)).trans (h.block k hk hb)⟩

/-- an object that is being read. -/
structure OSt (w0 : World) (b : Nat) (s : ByteArray) (n : Nat) (w : World) (r : Except Int (V × List UInt8)) (gg : Nat) (p : Bool) (fs : List Fl) (sl : Value) (wr : World) : Prop where
  kept : Kept b w wr
  row0 : wr.heap[w.heap.size]? = some (.cells #[.int .i64 0, .int .i64 0, .string ⟨#[]⟩, .slice none 0 0, .slice none 0 0] 31 (0, 0))
  row1 : wr.heap[w.heap.size + 1]? = some (.cells #[.int .i64 5, .int .i64 0, .string ⟨#[]⟩, .slice none 0 0, sl] 31 (0, 0))
  grows : GrowsFJ n wr (w.heap.size + 1) sl fs
  rises : Rises (fs.map Fl.pair)
  st : ∃ k', Rd w0 b s k' wr ∧ fs.length ≤ k' ∧ (p = true → r = .ok (objV (fs.map Fl.pair), s.data.toList.drop k')) ∧
    (p = false → s.size - k' < gg ∧ ∃ m, (s.data.toList.drop k').length < m ∧ r = liftO (membsP (valueP n) m (fs.map Fl.pair) (s.data.toList.drop k')))

/-- the object that is whole is answered. -/
theorem OSt.done {w0 w wr : World} {b n gg : Nat} {s : ByteArray} {r : Except Int (V × List UInt8)} {es : List Fl} {sl : Value} (h : OSt w0 b s n w r gg true es sl wr) (hb : b < w.heap.size) (i0 i1 i2 i3 i4 : Nat) (a0 a1 a2 a3 a4 : Value) :
    Ans w0 b s (n + 1) w r (.returned (.tuple #[.agg #[.int .i64 5, .int .i64 0, .string ⟨#[]⟩, .slice none 0 0, sl], .nilIface])) (set5W wr w.heap.size i0 i1 i2 i3 i4 a0 a1 a2 a3 a4) := by
  obtain ⟨k', R', hle, hr, _⟩ := h.st
  rw [hr rfl]
  have h0 : w0.heap.size ≤ w.heap.size := Nat.le_trans R'.le (Nat.le_of_lt hb)
  have hne : ∀ c, w.heap.size < c → (set5W wr w.heap.size i0 i1 i2 i3 i4 a0 a1 a2 a3 a4).heap[c]? = wr.heap[c]? := fun c hc => set5W_ne _ _ _ _ _ _ _ _ _ _ _ _ (by omega)
  have hG' := h.grows.move (W' := set5W wr w.heap.size i0 i1 i2 i3 i4 a0 a1 a2 a3 a4) fun c hc _ => hne c (by omega)
  have hk := R'.hk
  have hs := R'.hs
  refine ⟨h.kept.set5 (Nat.le_refl _) _ _ _ _ _ _ _ _ _ _, _, _, rfl, ⟨⟨[], rfl, RowAt.nil, fun e he => by cases he⟩, ⟨es, rfl, ⟨ownsRow_move (fun c _ _ => ⟨Nat.zero_le _, rfl⟩) hG'.own, by omega, fun c hc => by have := (hG'.own.lt c hc).1; show w.heap.size ≤ c; omega⟩, fun e he => (hG'.rep e he).move fun c hc _ => ⟨by omega, rfl⟩⟩⟩, k', R'.set5 (by omega) h0 _ _ _ _ _ _ _ _ _ _, rfl⟩

set_option maxRecDepth 100000 in
set_option maxHeartbeats 8000000 in
theorem object_any (n : Nat) (D : Int) (hD : 1 ≤ D) (hD2 : D ≤ 100) (ih : ValueAt n (D + 1)) {w0 w : World} {b k : Nat} {s : ByteArray} (R : Rd w0 b s k w) (h123 : hd (s.data.toList.drop k) = 123) :
    Calls Tryz.prog 48 #[.pointer (some ⟨b, 0, none⟩), .int .i64 D] w (Ans w0 b s (n + 1) w (objP (valueP n) ((s.data.toList.drop k).drop 1))) := by
  obtain ⟨RR, hRR⟩ : ∃ r, objP (valueP n) ((s.data.toList.drop k).drop 1) = r := ⟨_, rfl⟩
  rw [hRR]
  obtain ⟨O0, hO0⟩ : ∃ O, O = Obj.cells #[.int .i64 0, .int .i64 0, .string ⟨#[]⟩, .slice none 0 0, .slice none 0 0] 31 := ⟨_, rfl⟩
  obtain ⟨O1, hO1⟩ : ∃ O, O = Obj.cells #[.int .i64 5, .int .i64 0, .string ⟨#[]⟩, .slice none 0 0, .slice none 0 0] 31 := ⟨_, rfl⟩
  have hB2 : Below w.heap.size w ((w.alloc O0).alloc O1) := ((Below.refl _ _).alloc (Nat.le_refl _) _).alloc (by simp) _
  have hbw := lt_of_heap R.rd
  have R1 := R.same hB2
  have htk := take_one R1 123 (by decide) (p := true) (decide_eq_true h123)
  rw [hO0, hO1] at htk
  have HW := (show Hid _ from And.intro hRR (And.intro R (And.intro hO0 (And.intro hO1 (And.intro hB2 hbw)))))
  clear R1 R hRR hO0 hO1 hB2 h123
  go_enter Tryz.func48, Tryz.ntmps48
  go_wp2_with fail
  refine htk.mono ?_
  rintro e w1 ⟨rfl, K1, k1, R1, hd1⟩
  obtain ⟨p, hp⟩ : ∃ p, decide (hd (skip (s.data.toList.drop k1)) = (125 : UInt8).toNat) = p := ⟨_, rfl⟩
  have hmk := mark_one R1 125 (by decide) hp
  have HX := (show Hid _ from And.intro hp (And.intro K1 hd1))
  clear htk hp K1 hd1 R1
  go_wp2_with fail
  refine hmk.mono ?_
  rintro e w2 ⟨rfl, K2, k2, R2, hd2⟩
  have HY := (show Hid _ from And.intro K2 (And.intro R2 hd2))
  clear hmk K2 R2 hd2
  go_wp2_with fail
  go_loopg [7, 8] (s.size + 1) (fun gg s7 _ wr => ∃ (p : Bool) (es : List Fl) (sl : Value), s7 = .bool p ∧ Aside (OSt w0 b s n w RR gg p es sl wr))
  case atStart =>
    obtain ⟨hp, K1, hd1⟩ := HX.out
    obtain ⟨K2, R2, hd2⟩ := HY.out
    obtain ⟨hr, R, hO0, hO1, hB2, hbw⟩ := HW.out
    have K : Kept b w w2 := (Kept.of_below hB2).trans (by rw [hO0, hO1]; exact K1.trans K2)
    have K12 : Kept b ((w.alloc O0).alloc O1) w2 := by rw [hO0, hO1]; exact K1.trans K2
    refine ⟨p, [], .slice none 0 0, rfl, K, ?_, ?_, ⟨World.ownsRow_nil _ _ _ _, fun e he => (by cases he)⟩, trivial, k2, R2, Nat.zero_le _, ?_, ?_⟩
    · rw [K12.block _ (by simp; omega) (by omega), heap_alloc2_old, hO0]
    · rw [K12.block _ (by simp) (by omega), heap_alloc2_new, hO1]
    · intro e
      subst e
      rw [← hr]
      unfold objP
      have hd1' : s.data.toList.drop k1 = (s.data.toList.drop k).drop 1 := hd1
      have hd2' : s.data.toList.drop k2 = (skip (s.data.toList.drop k1)).drop 1 := hd2
      rw [← hd1', if_pos (show hd (skip (s.data.toList.drop k1)) = 125 from of_decide_eq_true hp), hd2']
      rfl
    · intro e
      subst e
      refine ⟨by omega, (s.data.toList.drop k2).length + 1, by omega, ?_⟩
      rw [← hr]
      unfold objP
      have hd1' : s.data.toList.drop k1 = (s.data.toList.drop k).drop 1 := hd1
      have hd2' : s.data.toList.drop k2 = skip (s.data.toList.drop k1) := hd2
      rw [← hd1', if_neg (show ¬ hd (skip (s.data.toList.drop k1)) = 125 from of_decide_eq_false hp), hd2']
      rfl
  case round =>
    obtain ⟨p, es, sl, rfl, hL⟩ := hrel
    have L := hL.out
    obtain ⟨al, cl, rfl⟩ := ownsRow_slice L.grows.own
    have hbw := HW.out.2.2.2.2.2
    clear HX HY
    cases p
    · obtain ⟨k', R', hle, _, hst⟩ := L.st
      obtain ⟨hgg, m, hm, hr⟩ := hst rfl
      have hcall := field_any n D hD hD2 ih R' (B := w.heap.size + 1) (by omega) (lt_of_heap L.row1) L.grows L.rises (by have := R'.hk; have := R'.hs; omega)
      obtain ⟨rv, hrv⟩ : ∃ r, fieldP (valueP n) (es.map Fl.pair) (s.data.toList.drop k') = r := ⟨_, rfl⟩
      rw [hrv] at hcall
      obtain ⟨c0, c1, c2, c3, c4, cf⟩ := row5 L.row1
      have hz1' : w.heap.size + 1 < wr.heap.size := lt_of_heap L.row1
      have hnb : ∀ c, c < w.heap.size + 1 + 1 → some c ≠ (Value.slice al es.length cl).ownBlock := fun c hc e => by
        have := (L.grows.own.lt c e.symm).1
        omega
      have HS := (show Hid _ from And.intro hrv (And.intro R' (And.intro hle (And.intro hgg (And.intro hm (And.intro hr (And.intro L hnb)))))))
      clear ih hrv R' hle hgg hm hr L hL hst hnb
      go_wp2_with fail
      refine hcall.mono ?_
      rintro e w1 ⟨K1, h1⟩
      clear hcall
      obtain ⟨hrv, R', hle, hgg, hm, hr, L, hnb⟩ := HS.out
      have r0 := (K1.block _ (lt_of_heap L.row0) (by omega) (hnb _ (by omega))).trans L.row0
      have r1 := (K1.block _ (lt_of_heap L.row1) (by omega) (hnb _ (by omega))).trans L.row1
      have hlt1 := lt_of_heap r1
      have K0 : Kept b w w1 := by
        have h1 := L.kept.size
        exact ⟨K1.os.trans L.kept.os, K1.tape.trans L.kept.tape, K1.output.trans L.kept.output, Nat.le_trans h1 K1.size, fun c hc hcb => (K1.block c (by omega) hcb (hnb c (by omega))).trans (L.kept.block c hc hcb)⟩
      obtain ⟨j0, j1, j2, j3, j4, jf⟩ := row5 r0
      obtain ⟨m0, m1, m2, m3, m4, mf⟩ := row5 r1
      clear hrv R' hle hgg hm hr L hnb
      have hz0' : w.heap.size < w1.heap.size := by omega
      cases rv with
      | error c =>
        obtain ⟨x, rfl, hx⟩ := h1
        obtain ⟨u, z, rfl⟩ := hx.iface
        have HZ := (show Hid _ from And.intro hx (And.intro K0 (And.intro r0 r1)))
        clear hx K0 r0 r1 K1
        go_wp2
        obtain ⟨hx, K0, r0, r1⟩ := HZ.out
        obtain ⟨hrv, R', hle, hgg, hm, hr, L, hnb⟩ := HS.out
        have r0' : (w1.setCell ⟨w.heap.size + 1, 4, none⟩ (.slice none 0 0)).heap[w.heap.size]? = some (.cells #[.int .i64 0, .int .i64 0, .string ⟨#[]⟩, .slice none 0 0, .slice none 0 0] 31 (0, 0)) := (heap_setCell_ne _ _ _ (by simp)).trans r0
        obtain ⟨q0, q1, q2, q3, q4, _⟩ := row5 (row_set5 r0' (.int .i64 0) (.int .i64 0) (.string ⟨#[]⟩) (.slice none 0 0) (.slice none 0 0))
        simp only [set5W] at q0 q1 q2 q3 q4
        refine bodyPost_ret (v := .tuple #[zeroA, .iface u z]) (by simp [results, Tryz.results48, go_sem, q0, q1, q2, q3, q4]) rfl (Ans.err (hx.setc r1 (by decide) _) (K0.setc (by omega) _) r0' ?_ 0 1 2 3 4 _ _ _ _ _)
        cases m with
        | zero => omega
        | succ m =>
          rw [hr]
          simp only [membsP, hrv, liftO]
      | ok rv =>
        obtain ⟨sl', fs', rfl, hmap, hln, hG1, k1, R1, hd1⟩ := h1
        obtain ⟨ps, rest⟩ := rv
        simp only at hmap hd1 ⊢
        obtain ⟨al', cl', rfl⟩ := ownsRow_slice hG1.own
        obtain ⟨sv, hsv⟩ : ∃ sv, sv = Value.slice al' fs'.length cl' := ⟨_, rfl⟩
        have K3 : Kept b w (w1.setCell ⟨w.heap.size + 1, 4, none⟩ sv) := K0.setc (by omega) _
        have hKs : Kept (w.heap.size + 1) w1 (w1.setCell ⟨w.heap.size + 1, 4, none⟩ sv) := Kept.set w1
        have R3 : Rd w0 b s k1 (w1.setCell ⟨w.heap.size + 1, 4, none⟩ sv) := HW.out.2.1.kept K3 (by rw [hKs.block b (by omega) (by omega)]; exact R1.rd) R1.hk
        have hen := ends_any R3 125 (by decide)
        rw [hd1] at hen
        obtain ⟨re, hre⟩ : ∃ r, endsP (125 : UInt8).toNat rest = r := ⟨_, rfl⟩
        rw [hre, hsv] at hen
        have HU := (show Hid _ from And.intro K3 (And.intro R3 (And.intro hre (And.intro hsv (And.intro r0 (And.intro r1 (And.intro hmap (And.intro hln (And.intro hG1 hd1)))))))))
        clear K3 R3 hre hsv r0 r1 hmap hln hG1 hd1 hKs R1 K0 K1
        go_wp2_with fail
        refine hen.mono ?_
        rintro e w4 ⟨K4, h4⟩
        clear hen
        cases re with
        | none =>
          obtain ⟨x', rfl, hx⟩ := h4
          obtain ⟨K3, R3, hre, hsv, r0, r1, hmap, hln, hG1, hd1⟩ := HU.out
          rw [← hsv] at K4
          have hs3 : (w1.setCell ⟨w.heap.size + 1, 4, none⟩ sv).heap[w.heap.size]? = some (.cells #[.int .i64 0, .int .i64 0, .string ⟨#[]⟩, .slice none 0 0, .slice none 0 0] 31 (0, 0)) := (heap_setCell_ne _ _ _ (by simp)).trans r0
          obtain ⟨r4, K4'⟩ := wordRow2 K3 hs3 K4 (by omega)
          obtain ⟨j0, j1, j2, j3, j4, jf⟩ := row5 r4
          obtain ⟨u, z, rfl⟩ := hx.iface
          have HV := (show Hid _ from And.intro hx (And.intro K4' r4))
          clear hx K4' r4 K3 R3 hre hsv r0 r1 hs3 K4 m0 m1 m2 m3 m4 mf c0 c1 c2 c3 c4 cf hmap hln hG1 hd1
          go_wp2
          obtain ⟨hx, K4', r4⟩ := HV.out
          obtain ⟨hrv, R', hle, hgg, hm, hr, L, hnb⟩ := HS.out
          obtain ⟨K3, R3, hre, hsv, r0, r1, hmap, hln, hG1, hd1⟩ := HU.out
          refine bodyPost_ret (v := .tuple #[zeroA, .iface u z]) (by simp [results, Tryz.results48, go_sem, j0, j1, j2, j3, j4]) rfl (Ans.err hx K4' r4 ?_ 0 1 2 3 4 _ _ _ _ _)
          cases m with
          | zero => omega
          | succ m =>
            have hre' : endsP 125 rest = none := hre
            rw [hr]
            simp only [membsP, hrv, hre', liftO]
        | some re =>
          obtain ⟨rfl, k4', R4, hd4⟩ := h4
          obtain ⟨p', t'⟩ := re
          simp only at hd4 ⊢
          have HV := (show Hid _ from And.intro R4 (And.intro hd4 K4))
          clear R4 hd4 K4 m0 m1 m2 m3 m4 mf c0 c1 c2 c3 c4 cf j0 j1 j2 j3 j4 jf
          go_wp2_with fail
          go_roundg (s.size - k4' + 1)
          case measure =>
            obtain ⟨hrv, R', hle, hgg, hm, hr, L, hnb⟩ := HS.out
            obtain ⟨K3, R3, hre, hsv, r0, r1, hmap, hln, hG1, hd1⟩ := HU.out
            obtain ⟨R4, hd4, K4⟩ := HV.out
            have h1 := (field_tail (value_tail n) hrv).len
            have h2 := ends_less (by decide) hre
            simp only at h1
            rw [← hd4] at h2
            rw [len_drop] at h1 h2
            omega
          case rel =>
            obtain ⟨hrv, R', hle, hgg, hm, hr, L, hnb⟩ := HS.out
            obtain ⟨K3, R3, hre, hsv, r0, r1, hmap, hln, hG1, hd1⟩ := HU.out
            obtain ⟨R4, hd4, K4⟩ := HV.out
            have h1 := (field_tail (value_tail n) hrv).len
            have h2 := ends_less (by decide) hre
            simp only at h1
            rw [← hd4] at h2
            rw [len_drop] at h1 h2
            rw [← hsv] at K4 hG1
            have hne : ∀ c, c ≠ w.heap.size + 1 → (w1.setCell ⟨w.heap.size + 1, 4, none⟩ sv).heap[c]? = w1.heap[c]? := fun c hc => heap_setCell_ne _ _ _ hc
            have hG4 := (hG1.move (W' := w1.setCell ⟨w.heap.size + 1, 4, none⟩ sv) fun c hc _ => hne c (by omega)).move (W' := w4) fun c hc hl => K4.block c hl (by omega)
            have hz3 : (w1.setCell ⟨w.heap.size + 1, 4, none⟩ sv).heap.size = w1.heap.size := by simp [World.setCell]
            refine ⟨p', fs', sv, rfl, K3.trans K4, ?_, ?_, hG4, ?_, k4', R4, ?_, ?_, ?_⟩
            · rw [K4.block _ (by omega) (by omega), hne _ (by omega)]; exact r0
            · rw [K4.block _ (by omega) (by omega)]; exact setCell_row r1 (i := 4) _
            · rw [hmap]; exact field_rises hrv L.rises
            · omega
            · intro e
              subst e
              cases m with
              | zero => omega
              | succ m =>
                have hre' : endsP 125 rest = some (true, t') := hre
                rw [hr, hd4, hmap]
                simp only [membsP, hrv, hre', liftO]
            · intro e
              subst e
              cases m with
              | zero => omega
              | succ m =>
                have hre' : endsP 125 rest = some (false, t') := hre
                rw [len_drop] at hm
                refine ⟨by omega, m, by rw [len_drop]; omega, ?_⟩
                rw [hr, hd4, hmap]
                simp only [membsP, hrv, hre']
    · obtain ⟨k0, k1, k2, k3, k4, kf⟩ := row5 L.row1
      obtain ⟨j0, j1, j2, j3, j4, jf⟩ := row5 L.row0
      have hz1' : w.heap.size + 1 < wr.heap.size := lt_of_heap L.row1
      clear ih L
      go_wp2
      exact bodyPost_ret (v := .tuple #[.agg #[.int .i64 5, .int .i64 0, .string ⟨#[]⟩, .slice none 0 0, .slice al es.length cl], .nilIface]) (by simp [results, Tryz.results48, go_sem, j0, j1, j2, j3, j4]) rfl (hL.out.done hbw 0 1 2 3 4 _ _ _ _ _)
end Go.Proofs.YtnkoblhdbccbeaaGreatDoor
