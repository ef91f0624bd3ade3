/-
  The program's reader of JSON: fields. Conditions: as stated (texts of at most 4096 bytes).
-/
import Derived.Test.YtdcaohnaiepllaaGreatDoorJR7
import Derived.Test.YtdcaohnaiepllaaGreatDoorJFs
import Derived.Test.YtdcaohnaiepllaaGreatDoorJIns
namespace Go.Proofs.YtdcaohnaiepllaaGreatDoor
open Go.RowKit Go.Extern.Stop Go.Stop Go.Extern

/-- all that was there is as it was, but for two blocks. -/
structure KeptF (b : Nat) (o : Option Nat) (w w' : World) : Prop where
  os : w'.os = w.os
  tape : w'.tape = w.tape
  output : w'.output = w.output
  size : w.heap.size ≤ w'.heap.size
  block : ∀ k, k < w.heap.size → k ≠ b → some k ≠ o → w'.heap[k]? = w.heap[k]?
theorem KeptF.of_kept {b : Nat} {o : Option Nat} {w w' : World} (h : Kept b w w') : KeptF b o w w' := ⟨h.os, h.tape, h.output, h.size, fun k hk hb _ => h.block k hk hb⟩
theorem KeptF.trans {b : Nat} {o : Option Nat} {x y z : World} (h : KeptF b o x y) (k : KeptF b o y z) : KeptF b o x z :=
  ⟨k.os.trans h.os, k.tape.trans h.tape, k.output.trans h.output, Nat.le_trans h.size k.size, fun i hi hb ho => (k.block i (Nat.lt_of_lt_of_le hi h.size) hb ho).trans (h.block i hi hb ho)⟩
theorem KeptF.of_grown {b : Nat} {o : Option Nat} {w w' : World} (h : w.grownBy w' o) : KeptF b o w w' := ⟨h.os, h.tape, h.output, h.size, fun k hk _ ho => h.block k hk ho⟩

/-- fields that grow. -/
structure GrowsFJ (d : Nat) (W : World) (B : Nat) (s : Value) (es : List Fl) : Prop where
  own : W.ownsRow (B + 1) 49 6 s es.length (encFs es)
  rep : ∀ e ∈ es, Rep (fun b => B < b ∧ s.ownBlock ≠ some b) d W e.v e.l e.f
theorem GrowsFJ.move {d B : Nat} {W W' : World} {s : Value} {es : List Fl} (h : GrowsFJ d W B s es) (hm : ∀ b, B < b → b < W.heap.size → W'.heap[b]? = W.heap[b]?) : GrowsFJ d W' B s es :=
  ⟨ownsRow_move (fun b hb hl => ⟨(h.own.lt b hb).1, hm b (by have := (h.own.lt b hb).1; omega) hl⟩) h.own, fun e he => (h.rep e he).move fun b hb hl => ⟨hb, hm b hb.1 hl⟩⟩
theorem GrowsFJ.ins {d B j : Nat} {W3 : World} {sl v' : Value} {es : List Fl} {nm : ByteArray} {x : V} {l f : Value} {W2 : World} (h : GrowsFJ d W2 B sl es) (hrep : Rep (fun b => B < b ∧ sl.ownBlock ≠ some b) d W2 x l f) (hj : j ≤ es.length)
    (hown : W3.ownsRow (B + 1) 49 6 v' (es.length + 1) (encFs (es.take j ++ ⟨nm, x, l, f⟩ :: es.drop j))) (hg : W2.grownBy W3 sl.ownBlock) (hv : sl.ownBlock = v'.ownBlock ∨ ∃ g, v'.ownBlock = some g ∧ W2.heap.size ≤ g) : GrowsFJ d W3 B v' (es.take j ++ ⟨nm, x, l, f⟩ :: es.drop j) := by
  have hm : ∀ b, (B < b ∧ sl.ownBlock ≠ some b) → b < W2.heap.size → (B < b ∧ v'.ownBlock ≠ some b) ∧ W3.heap[b]? = W2.heap[b]? := by
    intro b h1 h2
    refine ⟨⟨h1.1, ?_⟩, hg.block b h2 (fun e => h1.2 e.symm)⟩
    rcases hv with e | ⟨g, e, hge⟩
    · rw [← e]; exact h1.2
    · rw [e]
      intro e2
      have := Option.some.inj e2
      omega
  refine ⟨?_, ?_⟩
  · have : (es.take j ++ (⟨nm, x, l, f⟩ : Fl) :: es.drop j).length = es.length + 1 := by
      rw [List.length_append, List.length_cons, List.length_take, List.length_drop]; omega
    rw [this]; exact hown
  · intro e he
    rcases List.mem_append.1 he with he | he
    · exact (h.rep e (List.mem_of_mem_take he)).move hm
    · rcases List.mem_cons.1 he with rfl | he
      · exact hrep.move hm
      · exact (h.rep e (List.mem_of_mem_drop he)).move hm

/-- what is answered for a field. -/
def AnsM (w0 : World) (b : Nat) (s : ByteArray) (n : Nat) (W : World) (B : Nat) (sl : Value) (m : Nat) (r : Except Int (List (ByteArray × V) × List UInt8)) (e : Ending) (w' : World) : Prop :=
  KeptF b sl.ownBlock W w' ∧
  match r with
  | .error c => ∃ x, e = .returned (.tuple #[.slice none 0 0, x]) ∧ Flt c w' x
  | .ok r => ∃ sl' fs', e = .returned (.tuple #[sl', .nilIface]) ∧ fs'.map Fl.pair = r.1 ∧ fs'.length = m + 1 ∧ GrowsFJ n w' B sl' fs' ∧ ∃ k', Rd w0 b s k' w' ∧ s.data.toList.drop k' = r.2

theorem AnsM.err {w0 W w' : World} {b n B m : Nat} {s : ByteArray} {sl : Value} {c : Int} {x : Value} {r : Except Int (List (ByteArray × V) × List UInt8)} (K : Kept b W w') (hx : Flt c w' x) (hr : r = .error c) : AnsM w0 b s n W B sl m r (.returned (.tuple #[.slice none 0 0, x])) w' := by
  subst hr
  exact ⟨KeptF.of_kept K, x, rfl, hx⟩

def putP (nm : ByteArray) (ps : List (ByteArray × V)) (r : Except Int (V × List UInt8)) : Except Int (List (ByteArray × V) × List UInt8) :=
  match r with
  | .error e => .error e
  | .ok x => .ok (setF nm x.1 ps, x.2)

set_option maxRecDepth 100000 in
set_option maxHeartbeats 8000000 in
theorem field_any (n : Nat) (D : Int) (hD : 1 ≤ D) (hD2 : D ≤ 100) (ih : ValueAt n (D + 1)) {w0 w : World} {b k : Nat} {s : ByteArray} (R : Rd w0 b s k w) {B : Nat} (hbB : b ≤ B) (hBw : B < w.heap.size) {sl : Value} {fs : List Fl} (G : GrowsFJ n w B sl fs) (hri : Rises (fs.map Fl.pair)) (hlen : fs.length ≤ 4096) :
    Calls Tryz.prog 67 #[.pointer (some ⟨b, 0, none⟩), sl, .int .i64 D] w (AnsM w0 b s n w B sl fs.length (fieldP (valueP n) (fs.map Fl.pair) (s.data.toList.drop k))) := by
  obtain ⟨RR, hRR⟩ : ∃ r, fieldP (valueP n) (fs.map Fl.pair) (s.data.toList.drop k) = r := ⟨_, rfl⟩
  rw [hRR]
  obtain ⟨al, cl, rfl⟩ := ownsRow_slice G.own
  have hbl := blanks_any R
  have HW := (show Hid _ from And.intro hRR (And.intro G (And.intro hri hlen)))
  clear hRR R G hri hlen
  go_enter Tryz.func67, Tryz.ntmps67
  go_wp2_with fail
  refine hbl.mono ?_
  rintro e w1 ⟨rfl, K1, k1, _, R1, hd1⟩
  obtain ⟨rq, hrq⟩ : ∃ r, readL (s.data.toList.drop k1) = r := ⟨_, rfl⟩
  have hq := quoted_any R1 hrq
  rw [hd1] at hq hrq
  have H1 := (show Hid _ from And.intro K1 hrq)
  clear hbl K1 hrq hd1 R1
  go_wp2_with fail
  refine hq.mono ?_
  rintro e w2 ⟨K2, h2⟩
  clear hq
  cases rq with
  | none =>
    obtain ⟨x, rfl, hx⟩ := h2
    obtain ⟨u, z, rfl⟩ := hx.iface
    have HX := (show Hid _ from And.intro hx K2)
    clear hx K2
    go_wp2_with fail
    go_ret2
    obtain ⟨K1, hrq⟩ := H1.out
    obtain ⟨hx, K2⟩ := HX.out
    refine AnsM.err (K1.trans K2) hx ?_
    rw [← HW.out.1]
    unfold fieldP
    rw [hrq]
  | some rq =>
    obtain ⟨rfl, k2, R2, hd2⟩ := h2
    obtain ⟨nm, hnm⟩ : ∃ nm : ByteArray, (⟨rq.1.toArray⟩ : ByteArray) = nm := ⟨_, rfl⟩
    obtain ⟨hRR, G, hri, hlen⟩ := HW.out
    obtain ⟨K1, hrq⟩ := H1.out
    have K12 := K1.trans K2
    have G2 : GrowsFJ n w2 B (.slice al fs.length cl) fs := G.move fun c hc hl => K12.block c hl (by omega)
    obtain ⟨p, hp⟩ : ∃ p, (getF nm (fs.map Fl.pair)).isSome = p := ⟨_, rfl⟩
    have hse := Search_is n fs (.slice al fs.length cl) nm w2 hp ⟨ownsRow_move (fun _ _ _ => ⟨Nat.zero_le _, rfl⟩) G2.own, by omega, fun _ _ => trivial⟩ (fun e he => (G2.rep e he).lies) hri
    obtain ⟨j, hj⟩ : ∃ j, aheadN nm (fs.map Fl.pair) = j := ⟨_, rfl⟩
    rw [hj] at hse
    rw [hnm]
    have H2 := (show Hid _ from And.intro K12 (And.intro R2 (And.intro hd2 (And.intro hnm (And.intro G2 (And.intro hp hj))))))
    clear K1 hrq K12 R2 hd2 hnm G2 hp hj hRR G hri hlen K2
    go_wp2_with fail
    refine hse.mono ?_
    rintro e w3 ⟨rfl, hb3⟩
    clear hse
    cases p
    · obtain ⟨K12, R2, hd2, hnm, G2, hp, hj⟩ := H2.out
      have R3 := R2.same hb3
      obtain ⟨q, hq⟩ : ∃ q, decide (hd (skip (s.data.toList.drop k2)) = (58 : UInt8).toNat) = q := ⟨_, rfl⟩
      have hmk := mark_one R3 58 (by decide) hq
      have H3 := (show Hid _ from And.intro hb3 hq)
      clear K12 R2 hd2 hnm G2 hp hj R3 hb3 hq
      go_wp2_with fail
      refine hmk.mono ?_
      rintro e w4 ⟨rfl, K4, k4, R4, hd4⟩
      clear hmk
      cases q
      · have hfl := fail_any R4 1 rfl
        have H4 := (show Hid _ from K4)
        clear R4 hd4 K4
        go_wp2_with fail
        refine hfl.mono ?_
        rintro e w5 ⟨x, rfl, hx, hb5⟩
        obtain ⟨u, z, rfl⟩ := hx.iface
        clear hfl
        go_wp2_with fail
        go_ret2
        obtain ⟨hRR, G, hri, hlen⟩ := HW.out
        obtain ⟨K1, hrq⟩ := H1.out
        obtain ⟨K12, R2, hd2, hnm, G2, hp, hj⟩ := H2.out
        obtain ⟨hb3, hq⟩ := H3.out
        refine AnsM.err (((K12.trans (Kept.of_below hb3)).trans H4.out).trans (Kept.of_below hb5)) hx ?_
        rw [← hRR]
        unfold fieldP
        rw [hrq]
        simp only [hnm, hp, ← hd2]
        rw [if_neg (by decide), if_neg (show ¬ hd (skip (s.data.toList.drop k2)) = 58 from of_decide_eq_false hq)]
      · have hcall := ih w0 b s k4 w4 R4
        have hd4' : s.data.toList.drop k4 = (skip (s.data.toList.drop k2)).drop 1 := hd4
        obtain ⟨rv, hrv⟩ : ∃ r, valueP n (s.data.toList.drop k4) = r := ⟨_, rfl⟩
        rw [hrv] at hcall
        have hval : RR = putP nm (fs.map Fl.pair) rv := by
          obtain ⟨hRR, G, hri, hlen⟩ := HW.out
          obtain ⟨K1, hrq⟩ := H1.out
          obtain ⟨K12, R2, hd2, hnm, G2, hp, hj⟩ := H2.out
          obtain ⟨hb3, hq⟩ := H3.out
          rw [← hRR]
          unfold fieldP
          rw [hrq]
          simp only [hnm, hp, ← hd2]
          rw [if_neg (by decide), if_pos (show hd (skip (s.data.toList.drop k2)) = 58 from of_decide_eq_true hq), ← hd4', hrv]
          rfl
        have H4 := (show Hid _ from And.intro K4 hval)
        clear R4 hd4 hd4' K4 hval hrv ih
        go_wp2_with fail
        refine hcall.mono ?_
        rintro e w5 ⟨K5, h5⟩
        clear hcall
        cases rv with
        | error c =>
          obtain ⟨x, rfl, hx⟩ := h5
          obtain ⟨u, z, rfl⟩ := hx.iface
          have H5 := (show Hid _ from And.intro hx K5)
          clear hx K5
          go_wp2_with fail
          go_ret2
          obtain ⟨hx, K5⟩ := H5.out
          obtain ⟨K4, hval⟩ := H4.out
          obtain ⟨hb3, hq⟩ := H3.out
          obtain ⟨K12, R2, hd2, hnm, G2, hp, hj⟩ := H2.out
          have hA := (Below.refl w5.heap.size w5).alloc (Nat.le_refl _) (.cells #[.int .i64 0, .int .i64 0, .string ⟨#[]⟩, .slice none 0 0, .slice none 0 0] 31)
          exact AnsM.err ((((K12.trans (Kept.of_below hb3)).trans K4).trans K5).trans (Kept.of_below hA)) (hx.below hA) hval
        | ok rv =>
          obtain ⟨l, f, rfl, hrx, k5, R5, hd5⟩ := h5
          obtain ⟨bl, dl, bf, df, rfl, rfl⟩ := hrx.slices
          obtain ⟨x, rest⟩ := rv
          simp only at hrx hd5 ⊢
          obtain ⟨hRR, G, hri, hlen⟩ := HW.out
          obtain ⟨K4, hval⟩ := H4.out
          obtain ⟨hb3, hq⟩ := H3.out
          obtain ⟨K12, R2, hd2, hnm, G2, hp, hj⟩ := H2.out
          have K14 : Kept b w w4 := (K12.trans (Kept.of_below hb3)).trans K4
          have K15 : Kept b w w5 := K14.trans K5
          have hG5 : GrowsFJ n w5 B (.slice al fs.length cl) fs := G.move fun c hc hl => K15.block c hl (by omega)
          obtain ⟨O, hO⟩ : ∃ O, O = Obj.cells #[.int .i64 x.kind, .int .i64 x.num, .string x.text, .slice bl x.list.length dl, .slice bf x.fields.length df] 31 := ⟨_, rfl⟩
          obtain ⟨O6, hO6⟩ : ∃ O, O = Obj.cells #[.string nm, .int .i64 x.kind, .int .i64 x.num, .string x.text, .slice bl x.list.length dl, .slice bf x.fields.length df] 49 := ⟨_, rfl⟩
          have hA : Below w5.heap.size w5 ((w5.alloc O).alloc O6) := ((Below.refl _ _).alloc (Nat.le_refl _) _).alloc (by simp) _
          have hG6 : GrowsFJ n ((w5.alloc O).alloc O6) B (.slice al fs.length cl) fs := hG5.move fun c _ hl => hA.block c hl
          have hrow6 : ((w5.alloc O).alloc O6).heap[w5.heap.size + 1]? = some (.cells (Fl.enc ⟨nm, x, .slice bl x.list.length dl, .slice bf x.fields.length df⟩).toArray 49 (0, 0)) := by
            rw [heap_alloc2_new, hO6]; rfl
          have hw45 := K5.size
          have hjl : j ≤ fs.length := by have := aheadN_le nm (fs.map Fl.pair); rw [hj, List.length_map] at this; exact this
          have hown5 : ∀ c, (Value.slice al fs.length cl).ownBlock = some c → c < w.heap.size := fun c e => (G.own.lt c e).2
          have hw15 := K15.size
          have hone : ∀ u ∈ encFs fs, u.oneCell' = true := encFs_one fun e he => (G.rep e he).shape
          have hone2 : ∀ u ∈ Fl.enc ⟨nm, x, .slice bl x.list.length dl, .slice bf x.fields.length df⟩, u.oneCell' = true := by
            intro u hu
            simp only [Fl.enc, List.mem_cons, List.not_mem_nil, or_false] at hu
            rcases hu with rfl | rfl | rfl | rfl | rfl | rfl <;> rfl
          have hins := Insert_own fs (.slice al fs.length cl) (B + 1) (w5.heap.size + 1) j ⟨nm, x, .slice bl x.list.length dl, .slice bf x.fields.length df⟩ ((w5.alloc O).alloc O6) hG6.own (by simp; omega) hone hone2 hjl (by omega) (fun e => by have := hown5 _ e; omega) hrow6
          rw [hO, hO6] at hins
          have H5 := (show Hid _ from And.intro hrx (And.intro R5 (And.intro hd5 (And.intro K14 (And.intro K15 (And.intro hG6 (And.intro hA (And.intro hO (And.intro hO6 (And.intro hjl (And.intro hown5 K5)))))))))))
          clear hrx R5 hd5 hRR G hri hlen K4 hval hb3 hq K12 R2 hd2 hnm G2 hp hj K14 K15 hG5 hA hG6 hrow6 hjl hown5 hone hone2 K5 hO hO6
          go_wp2_with fail
          refine hins.mono ?_
          rintro e w6 ⟨v', rfl, hown6, hgr6, hlie6⟩
          obtain ⟨av, cv, rfl⟩ := ownsRow_slice hown6
          have H6 := (show Hid _ from And.intro hown6 (And.intro hgr6 hlie6))
          clear hown6 hgr6 hlie6 hins
          go_wp2_with fail
          go_ret2
          obtain ⟨hown6, hgr6, hlie6⟩ := H6.out
          obtain ⟨hrx, R5, hd5, K14, K15, hG6, hA, hO, hO6, hjl, hown5, K5⟩ := H5.out
          obtain ⟨hRR, G, hri, hlen⟩ := HW.out
          obtain ⟨K4, hval⟩ := H4.out
          obtain ⟨K12, R2, hd2, hnm, G2, hp, hj⟩ := H2.out
          rw [← hO, ← hO6] at hgr6 hlie6
          have hrx6 : Rep (fun c => B < c ∧ (Value.slice al fs.length cl).ownBlock ≠ some c) n ((w5.alloc O).alloc O6) x (.slice bl x.list.length dl) (.slice bf x.fields.length df) := hrx.move fun c hc hl => by
            have h1 := K14.size
            refine ⟨⟨by omega, fun e => ?_⟩, hA.block c hl⟩
            have := hown5 c e
            omega
          have hG' := hG6.ins hrx6 hjl hown6 hgr6 hlie6
          have K16 : KeptF b (Value.slice al fs.length cl).ownBlock w w6 := (KeptF.of_kept (K15.trans (Kept.of_below hA))).trans (KeptF.of_grown hgr6)
          have hbs : b < w5.heap.size := lt_of_heap R5.rd
          have hbo : some b ≠ (Value.slice al fs.length cl).ownBlock := fun e => by
            have := (G.own.lt b e.symm).1
            omega
          have R6 : Rd w0 b s k5 w6 := by
            have hlo := R5.le
            have hsz := R5.below.size
            have hb56 : Below w0.heap.size w5 w6 := (hA.mono hsz).trans ⟨hgr6.os, hgr6.tape, hgr6.output, hgr6.size, fun c hc => hgr6.block c (by have := hA.size; omega) (fun e => by
              have := (G.own.lt c e.symm).1
              omega)⟩
            exact ⟨R5.env, R5.below.trans hb56, R5.le, (hgr6.block b (by have := hA.size; omega) hbo).trans ((hA.block b hbs).trans R5.rd), R5.hk, R5.hs⟩
          rw [hval]
          refine ⟨K16, _, _, rfl, ?_, ?_, hG', k5, R6, hd5⟩
          · show _ = setF nm x (fs.map Fl.pair)
            have hgn : getF nm (fs.map Fl.pair) = none := by
              cases h : getF nm (fs.map Fl.pair) with
              | none => rfl
              | some y => rw [h] at hp; cases hp
            rw [set_ahead nm x _ hgn, hj, List.map_append, List.map_cons, List.map_take, List.map_drop]
            rfl
          · rw [List.length_append, List.length_cons, List.length_take, List.length_drop]; omega
    · obtain ⟨K12, R2, hd2, hnm, G2, hp, hj⟩ := H2.out
      have hfl := fail_any (R2.same hb3) 5 rfl
      have H3 := (show Hid _ from hb3)
      clear K12 R2 hd2 hnm G2 hp hj hb3
      go_wp2_with fail
      refine hfl.mono ?_
      rintro e w5 ⟨x, rfl, hx, hb5⟩
      obtain ⟨u, z, rfl⟩ := hx.iface
      clear hfl
      go_wp2_with fail
      go_ret2
      obtain ⟨hRR, G, hri, hlen⟩ := HW.out
      obtain ⟨K1, hrq⟩ := H1.out
      obtain ⟨K12, R2, hd2, hnm, G2, hp, hj⟩ := H2.out
      refine AnsM.err ((K12.trans (Kept.of_below H3.out)).trans (Kept.of_below hb5)) hx ?_
      rw [← hRR]
      unfold fieldP
      rw [hrq]
      simp only [hnm, hp]
      rfl
end Go.Proofs.YtdcaohnaiepllaaGreatDoor
