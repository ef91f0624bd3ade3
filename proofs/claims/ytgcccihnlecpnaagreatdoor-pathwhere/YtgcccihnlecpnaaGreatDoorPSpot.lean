/-
  A place within a value that lies in memory of its own: what is written there is in the whole. No conditions beyond those stated.
-/
import Derived.Test.YtgcccihnlecpnaaGreatDoorPSet4
import Derived.Test.YtgcccihnlecpnaaGreatDoorPTwin3
import Derived.Test.YtgcccihnlecpnaaGreatDoorPFind
import Derived.Test.YtgcccihnlecpnaaGreatDoorVSD
namespace Go.Proofs.YtgcccihnlecpnaaGreatDoor
open Go.RowKit

theorem cell_congr {W W' : World} {B o : Nat} (h : W'.heap[B]? = W.heap[B]?) : W'.cell? ⟨B, o, none⟩ = W.cell? ⟨B, o, none⟩ := by simp [World.cell?, h]
theorem Kid.move {ok : Nat → Prop} {W W' : World} {l f : Value} {B o : Nat} {u : V} {ul uf : Value} {G : V → V} (h : Kid ok W l f B o u ul uf G) (hm : ∀ b, ok b → W'.heap[b]? = W.heap[b]?) : Kid ok W' l f B o u ul uf G := by
  obtain ⟨n, okc, keep, ⟨c0, c1, c2, c3, c4, _⟩, h2, h3, h4, h5, h6, h7⟩ := h
  have hB := hm B h7
  have h2' : Own n okc W' u ul uf := h2.move (fun b hb => hb) fun b hb _ => hm b (h5 b hb).1
  refine ⟨n, okc, keep, ⟨(cell_congr hB).trans c0, (cell_congr hB).trans c1, (cell_congr hB).trans c2, (cell_congr hB).trans c3, (cell_congr hB).trans c4, h2'.rep.lies⟩, h2', fun W'' m x lx fx hk hs ha => ?_, ?_, h5, h6, h7⟩
  · refine h3 W'' m x lx fx (fun b hb => (hk b hb).trans (hm b (h6 b hb).1)) ?_ ha
    obtain ⟨cur, t, a0, a1, a2, a3, a4, g1, g2, g3⟩ := hs
    exact ⟨cur, t, a0, a1, a2, a3, a4, hB.symm.trans g1, g2, g3⟩
  · obtain ⟨cur, t, g1, g2⟩ := h4
    exact ⟨cur, t, hB.trans g1, g2⟩

/-- the whole, by what is at a place: whatever is put there, at R there lies the whole with it. -/
def Ctx (W : World) (keep : Nat → Prop) (B o R : Nat) (F : V → V) : Prop :=
  ∀ W' m x lx fx, (∀ b, keep b → W'.heap[b]? = W.heap[b]?) → Same5 W W' B o → At m W' B o x lx fx → ∃ M l f, At M W' R 0 (F x) l f
/-- a place in a value that lies at R, all of it in blocks from z on. -/
structure SpotW (n : Nat) (ok keep : Nat → Prop) (z R : Nat) (W : World) (B o : Nat) (u : V) (ul uf : Value) (F : V → V) : Prop where
  at_ : At n W B o u ul uf
  own : Own n ok W u ul uf
  row : ∃ cur t, W.heap[B]? = some (.cells cur t (0, 0)) ∧ o + 5 ≤ cur.size
  ctx : Ctx W keep B o R F
  oks : ∀ b, ok b → ¬ keep b ∧ b ≠ B ∧ z ≤ b ∧ b < W.heap.size
  apart : ¬ keep B
  keeps : ∀ b, keep b → z ≤ b ∧ b < W.heap.size
  le : z ≤ B
  leR : z ≤ R
def Spot (z R : Nat) (W : World) (B o : Nat) (u : V) (ul uf : Value) (F : V → V) : Prop := ∃ n ok keep, SpotW n ok keep z R W B o u ul uf F

theorem SpotW.below {n : Nat} {ok keep : Nat → Prop} {z R : Nat} {W W' : World} {B o : Nat} {u : V} {ul uf : Value} {F : V → V} (h : SpotW n ok keep z R W B o u ul uf F) (hb : Below W.heap.size W W') : SpotW n ok keep z R W' B o u ul uf F := by
  obtain ⟨h1, h2, ⟨cur, t, h3, h3'⟩, h4, h5, h6, h7, h8, h9⟩ := h
  have hB := hb.block B (lt_of_heap h3)
  refine ⟨h1.below hb, h2.move (fun b hb => hb) fun b _ hl => hb.block b hl, ⟨cur, t, hB.trans h3, h3'⟩, fun W'' m x lx fx hk hs ha => ?_, fun b hb' => ?_, h6, fun b hb' => ⟨(h7 b hb').1, Nat.lt_of_lt_of_le (h7 b hb').2 hb.size⟩, h8, h9⟩
  · refine h4 W'' m x lx fx (fun b hb' => (hk b hb').trans (hb.block b (h7 b hb').2)) ?_ ha
    obtain ⟨cur, t, a0, a1, a2, a3, a4, g1, g2, g3⟩ := hs
    exact ⟨cur, t, a0, a1, a2, a3, a4, hB.symm.trans g1, g2, g3⟩
  · obtain ⟨e1, e2, e3, e4⟩ := h5 b hb'
    exact ⟨e1, e2, e3, Nat.lt_of_lt_of_le e4 hb.size⟩
theorem Spot.below {z R : Nat} {W W' : World} {B o : Nat} {u : V} {ul uf : Value} {F : V → V} (h : Spot z R W B o u ul uf F) (hb : Below W.heap.size W W') : Spot z R W' B o u ul uf F := by
  obtain ⟨n, ok, keep, h⟩ := h
  exact ⟨n, ok, keep, h.below hb⟩
/-- from a place to one within it. -/
theorem SpotW.sub {n : Nat} {ok keep : Nat → Prop} {z R : Nat} {w W : World} {B o : Nat} {u : V} {ul uf : Value} {F : V → V} (h : SpotW n ok keep z R w B o u ul uf F) {u' y : V} {l f yl yf : Value} {okk : Nat → Prop} {C o' : Nat} {G : V → V}
    (hk : Kid okk W l f C o' y yl yf G) (kk : ∀ b, keep b → W.heap[b]? = w.heap[b]?) (ko : ∀ b, okk b → ¬ keep b ∧ b ≠ B ∧ z ≤ b ∧ b < W.heap.size)
    (hs : Same5 w W B o) (c0 : W.cell? ⟨B, o, none⟩ = some (.int .i64 u'.kind)) (c1 : W.cell? ⟨B, o + 1, none⟩ = some (.int .i64 u'.num)) (c2 : W.cell? ⟨B, o + 2, none⟩ = some (.string u'.text)) (c3 : W.cell? ⟨B, o + 3, none⟩ = some l) (c4 : W.cell? ⟨B, o + 4, none⟩ = some f)
    (hG : ∀ x, (G x).kind = u'.kind ∧ (G x).num = u'.num ∧ (G x).text = u'.text) (hsz : w.heap.size ≤ W.heap.size) : Spot z R W C o' y yl yf (fun x => F (G x)) := by
  obtain ⟨h1, h2, h3, h4, h5, h6, h7, h8, h9⟩ := h
  obtain ⟨m, okc, keepc, k1, k2, k3, k4, k5, k6, k7⟩ := hk
  have hBW : B < W.heap.size := lt_of_cell c0
  refine ⟨m, okc, fun b => keep b ∨ keepc b ∨ b = B, k1, k2, k4, ?_, fun b hb => ?_, ?_, fun b hb => ?_, (ko C k7).2.2.1, h9⟩
  · intro W' p x lx fx hkeep hs' ha
    obtain ⟨M, hM⟩ := k3 W' p x lx fx (fun b hb => hkeep b (.inr (.inl hb))) hs' ha
    have hBB := hkeep B (.inr (.inr rfl))
    obtain ⟨g0, g1, g2⟩ := hG x
    refine h4 W' M (G x) l f (fun b hb => (hkeep b (.inl hb)).trans (kk b hb)) ?_ ⟨?_, ?_, ?_, (cell_congr hBB).trans c3, (cell_congr hBB).trans c4, hM⟩
    · obtain ⟨cur, t, a0, a1, a2, a3, a4, q1, q2, q3⟩ := hs
      exact ⟨cur, t, a0, a1, a2, a3, a4, q1, q2, hBB.trans q3⟩
    · rw [g0]; exact (cell_congr hBB).trans c0
    · rw [g1]; exact (cell_congr hBB).trans c1
    · rw [g2]; exact (cell_congr hBB).trans c2
  · obtain ⟨e1, e2, e3⟩ := k5 b hb
    obtain ⟨f1, f2, f3, f4⟩ := ko b e1
    refine ⟨fun h => ?_, e3, f3, f4⟩
    rcases h with h | h | h
    · exact f1 h
    · exact e2 h
    · exact f2 h
  · intro h
    rcases h with h | h | h
    · exact (ko C k7).1 h
    · exact (k6 C h).2 rfl
    · exact (ko C k7).2.1 h
  · rcases hb with hb | hb | hb
    · exact ⟨(h7 b hb).1, Nat.lt_of_lt_of_le (h7 b hb).2 hsz⟩
    · exact (ko b (k6 b hb).1).2.2
    · rw [hb]; exact ⟨h8, hBW⟩
/-- a place that is there already. -/
theorem SpotW.kid {n : Nat} {ok keep : Nat → Prop} {z R : Nat} {w : World} {B o : Nat} {u : V} {ul uf : Value} {F : V → V} (h : SpotW n ok keep z R w B o u ul uf F) {y : V} {yl yf : Value} {C o' : Nat} {G : V → V} (hk : Kid ok w ul uf C o' y yl yf G) (hG : ∀ x, (G x).kind = u.kind ∧ (G x).num = u.num ∧ (G x).text = u.text) : Spot z R w C o' y yl yf (fun x => F (G x)) := by
  obtain ⟨c0, c1, c2, c3, c4, _⟩ := h.at_
  obtain ⟨cur, t, g1, g2⟩ := h.row
  exact h.sub hk (fun _ _ => rfl) h.oks (Same5.refl g1 g2 rfl) c0 c1 c2 c3 c4 hG (Nat.le_refl _)

/-- five cells of a place, written. -/
def write5 (W : World) (B o : Nat) (a0 a1 a2 a3 a4 : Value) : World := set5W W B o (o + 1) (o + 2) (o + 3) (o + 4) a0 a1 a2 a3 a4
theorem write5_same {W : World} {B o : Nat} {cur : Array Value} {t : Nat} (h : W.heap[B]? = some (.cells cur t (0, 0))) (ho : o + 5 ≤ cur.size) (a0 a1 a2 a3 a4 : Value) : Same5 W (write5 W B o a0 a1 a2 a3 a4) B o ∧
    (write5 W B o a0 a1 a2 a3 a4).cell? ⟨B, o, none⟩ = some a0 ∧ (write5 W B o a0 a1 a2 a3 a4).cell? ⟨B, o + 1, none⟩ = some a1 ∧ (write5 W B o a0 a1 a2 a3 a4).cell? ⟨B, o + 2, none⟩ = some a2 ∧ (write5 W B o a0 a1 a2 a3 a4).cell? ⟨B, o + 3, none⟩ = some a3 ∧ (write5 W B o a0 a1 a2 a3 a4).cell? ⟨B, o + 4, none⟩ = some a4 := by
  have hg : (write5 W B o a0 a1 a2 a3 a4).heap[B]? = some (.cells (cur.toList.take o ++ [a0, a1, a2, a3, a4] ++ cur.toList.drop (o + 5)).toArray t (0, 0)) := set5 h ho a0 a1 a2 a3 a4
  exact ⟨⟨cur, t, a0, a1, a2, a3, a4, h, ho, hg⟩, five_at cur.toList o (by simpa using ho) hg⟩
theorem write5_ne (W : World) (B o : Nat) (a0 a1 a2 a3 a4 : Value) {k : Nat} (h : k ≠ B) : (write5 W B o a0 a1 a2 a3 a4).heap[k]? = W.heap[k]? := set5W_ne _ _ _ _ _ _ _ _ _ _ _ _ h
theorem write5_size (W : World) (B o : Nat) (a0 a1 a2 a3 a4 : Value) : (write5 W B o a0 a1 a2 a3 a4).heap.size = W.heap.size := set5W_size _ _ _ _ _ _ _ _ _ _ _ _
theorem write5_below {w W : World} {C B : Nat} (hb : Below C w W) (h : C ≤ B) (o : Nat) (a0 a1 a2 a3 a4 : Value) : Below C w (write5 W B o a0 a1 a2 a3 a4) := set5W_below hb h _ _ _ _ _ _ _ _ _ _
/-- a value is written at a place: the whole has it. -/
theorem Spot.write {z R : Nat} {w W : World} {B o : Nat} {u : V} {ul uf : Value} {F : V → V} (h : Spot z R w B o u ul uf F) {m : Nat} {x : V} {lx fx : Value} (hW : ∀ b, z ≤ b → b ≠ B → b < w.heap.size → W.heap[b]? = w.heap[b]?) (hs : Same5 w W B o) (ha : At m W B o x lx fx) :
    ∃ M l f, At M W R 0 (F x) l f := by
  obtain ⟨n, okn, keep, h⟩ := h
  exact h.ctx _ m x lx fx (fun b hb => hW b (h.keeps b hb).1 (fun e => h.apart (e ▸ hb)) (h.keeps b hb).2) hs ha
/-- where a copy lies. -/
theorem spot_new {z : Nat} {W : World} {B : Nat} {n : Nat} {ok : Nat → Prop} {u : V} {ul uf : Value} {t : Nat} (h : W.heap[B]? = some (.cells #[.int .i64 u.kind, .int .i64 u.num, .string u.text, ul, uf] t (0, 0))) (ho : Own n ok W u ul uf) (hb : ∀ b, ok b → b ≠ B ∧ z ≤ b ∧ b < W.heap.size) (hB : z ≤ B) :
    Spot z B W B 0 u ul uf (fun x => x) := by
  obtain ⟨a0, a1, a2, a3, a4, _⟩ := row5 h
  exact ⟨n, ok, fun _ => False, ⟨⟨a0, a1, a2, a3, a4, ho.rep.lies⟩, ho, ⟨_, _, h, by simp⟩, fun W' m x lx fx _ _ ha => ⟨m, lx, fx, ha⟩, fun b hb' => ⟨fun h => h, hb b hb'⟩, fun h => h, fun b h => absurd h id, hB, hB⟩⟩

/-- names rise, and there is room, so deep. -/
def Fit (N : Nat) : Nat → V → Prop
  | 0, _ => True
  | n + 1, v => Rises v.fields ∧ v.fields.length ≤ N ∧ (∀ x ∈ v.list, Fit N n x) ∧ ∀ p ∈ v.fields, Fit N n p.2
theorem fit_obj (N : Nat) : ∀ n, Fit N n objE
  | 0 => trivial
  | n + 1 => ⟨trivial, Nat.zero_le _, fun _ h => (by cases h), fun _ h => (by cases h)⟩

theorem put_field {v y : V} {p q : ByteArray} {j : Nat} (hk : v.kind = 5) (hr : Rises v.fields) (hw : whereI (isName p) v.fields = (j : Nat)) (hj : v.fields[j]? = some (q, y)) (ps : List ByteArray) (x : V) :
    putP v (p :: ps) x = (putP y ps x).map fun z => { v with fields := v.fields.set j (q, z) } := by
  rcases where_name p v.fields with ⟨h1, h2⟩ | ⟨j', q', y', h1, h2, h3, h4, _⟩
  · rw [h1] at hw; omega
  · obtain rfl : j' = j := by rw [h1] at hw; omega
    rw [hj] at h2
    cases h2
    show (if v.kind = 5 then _ else _) = _
    rw [if_pos hk, h3]
    have : ∀ z, setF p z v.fields = v.fields.set j' (q, z) := fun z => by rw [← h4, repl_set hr (by rw [h3]; rfl)]
    simp only [Option.getD_some, this]
theorem put_list {v y : V} {p : ByteArray} {j : Nat} (hk : v.kind = 4) (hp : placeOf p = some j) (hj : v.list[j]? = some y) (ps : List ByteArray) (x : V) :
    putP v (p :: ps) x = (putP y ps x).map fun z => { v with list := v.list.set j z } := by
  show (if v.kind = 5 then _ else if v.kind = 4 then _ else _) = _
  rw [if_neg (by omega), if_pos hk, hp, Option.bind_some, hj, Option.bind_some]
theorem put_made {v : V} {p : ByteArray} {j : Nat} (hk : v.kind = 5) (hn : getF p v.fields = none) (ha : aboveI p v.fields = (j : Nat)) (ps : List ByteArray) (x : V) :
    putP v (p :: ps) x = (putP objE ps x).map fun z => { v with fields := (insF p objE v.fields).set j (p, z) } := by
  show (if v.kind = 5 then _ else _) = _
  rw [if_pos hk, hn]
  have : ∀ z, setF p z v.fields = (insF p objE v.fields).set j (p, z) := fun z => by
    rw [← ins_set hn]
    obtain ⟨j1, a1, a2, a3⟩ := where_above p z v.fields
    obtain ⟨j2, b1, b2, b3⟩ := where_above p objE v.fields
    obtain rfl : j1 = j := by rw [a1] at ha; omega
    obtain rfl : j2 = j1 := by rw [b1] at ha; omega
    rw [a3, b3]
    have hl : (v.fields.take j2).length = j2 := by rw [List.length_take]; omega
    rw [List.set_append_right _ _ (by omega), hl, Nat.sub_self]
    rfl
  simp only [Option.getD_none, this]
theorem put_no {v : V} {p : ByteArray} (h5 : ¬ v.kind = 5) (ha : atP v p = none) (ps : List ByteArray) (x : V) : putP v (p :: ps) x = none := by
  show (if v.kind = 5 then _ else if v.kind = 4 then _ else _) = _
  rw [if_neg h5]
  by_cases h4 : v.kind = 4
  · rw [if_pos h4]
    rw [at4 h4] at ha
    rcases hp : placeOf p with _ | i
    · rfl
    · rw [hp, Option.bind_some] at ha
      rw [Option.bind_some, ha]; rfl
  · rw [if_neg h4]
end Go.Proofs.YtgcccihnlecpnaaGreatDoor
