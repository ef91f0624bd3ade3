/-
  The law's Read, and its parts, by their contracts. Conditions: as stated.
-/
import Derived.Test.YtdcaohnaiepllaaGreatDoorJQ8
import Derived.Test.YtdcaohnaiepllaaGreatDoorU17
namespace Go.Proofs.YtdcaohnaiepllaaGreatDoor
open Go.RowKit Go.Extern.Stop Go.Stop Go.Extern

/-- what the law's Read answers. -/
def ReR (w w' : World) (x : V) (l f : Value) (c : Int) : Except Int V → Prop
  | .ok y => c = 0 ∧ x = y ∧ Rep (fun b => w.heap.size ≤ b) 16 w' x l f
  | .error d => c = d ∧ ¬ d = 0
def ReA (w : World) (res : Except Int V) (e : Ending) (w' : World) : Prop :=
  ∃ (x : V) (al : Option Addr) (nl cl : Nat) (af : Option Addr) (nf cf : Nat) (c : Int), e = .returned (.tuple #[.agg #[.int .i64 x.kind, .int .i64 x.num, .string x.text, .slice al nl cl, .slice af nf cf], .int .i64 c]) ∧ Below w.heap.size w w' ∧ ReR w w' x (.slice al nl cl) (.slice af nf cf) c res
theorem re_bad {w w' : World} (d : Int) (hd : ¬ d = 0) (hb : Below w.heap.size w w') : ReA w (.error d) (.returned (.tuple #[.agg #[.int .i64 0, .int .i64 0, .string ⟨#[]⟩, .slice none 0 0, .slice none 0 0], .int .i64 d])) w' :=
  ⟨nulV, none, 0, 0, none, 0, 0, d, rfl, hb, rfl, hd⟩

set_option maxRecDepth 100000 in
set_option maxHeartbeats 8000000 in
theorem lRead_any (s : ByteArray) (hs : s.size ≤ 4096) (w : World) : Calls Tryz.prog 11 #[.string s] w (ReA w (parseW s.data.toList)) := by
  have zs : ¬ (4096 : Int) < (s.size : Int) := by omega
  obtain ⟨Z0, hZ0⟩ : ∃ O, O = Obj.cells #[.int .i64 0, .int .i64 0, .string ⟨#[]⟩, .slice none 0 0, .slice none 0 0] 31 := ⟨_, rfl⟩
  obtain ⟨W, hW⟩ : ∃ W, W = w.alloc Z0 := ⟨_, rfl⟩
  have hWB : Below w.heap.size w W := by rw [hW]; exact (Below.refl _ _).alloc (Nat.le_refl _) _
  have rW : W.heap[w.heap.size]? = some (.cells #[.int .i64 0, .int .i64 0, .string ⟨#[]⟩, .slice none 0 0, .slice none 0 0] 31) := by rw [hW, heap_alloc_new, hZ0]
  have hWs : w.heap.size < W.heap.size := lt_of_heap rW
  obtain ⟨RES, hRES⟩ : ∃ R, parseW s.data.toList = R := ⟨_, rfl⟩
  rw [hRES]
  unfold parseW at hRES
  rw [if_neg (by rw [← size_list rfl]; omega)] at hRES
  have hbl := blank_any s hs 0 (by omega) W
  rw [show ((0 : Nat) : Int) = 0 from rfl] at hbl
  have HI := (show Hid _ from And.intro hRES (And.intro hWB rW))
  rw [hW, hZ0] at hbl
  clear hRES hWB rW
  go_enter Tryz.func11, Tryz.ntmps11
  go_wp2_with fail
  refine hbl.mono ?_
  rintro e w1 ⟨⟨k1, rfl, hk0, hk1, hd1⟩, hw1⟩
  rw [← hZ0, ← hW] at hw1
  rw [hw1]
  clear hw1 hbl hW hZ0 Z0
  rw [List.drop_zero] at hd1
  have hread := read_any 16 (Nat.le_refl _) s hs k1 hk1 W (by rw [hd1, skip_skip])
  rw [show (17 : Int) - ((16 : Nat) : Int) = 1 from rfl, hd1, valueW_skip] at hread
  obtain ⟨res, hres⟩ : ∃ r, valueW 16 s.data.toList = r := ⟨_, rfl⟩
  rw [hres] at hread
  have hR := HI.out.1
  rw [hres] at hR
  clear hd1 hres
  go_wp2_with fail
  refine hread.mono ?_
  rintro e w2 ⟨x, al, nl, cl, af, nf, cf, j, c, rfl, hb2, hr2⟩
  have r2 := (hb2.block _ hWs).trans HI.out.2.2
  obtain ⟨v0, v1, v2, v3, v4, vf⟩ := row5 r2
  have hl2 := lt_of_heap r2
  have hz2 := hb2.size
  have hne : w.heap.size ≠ w2.heap.size := by omega
  have hne' : w2.heap.size ≠ w.heap.size := by omega
  have hB2 := HI.out.2.1.trans (hb2.mono HI.out.2.1.size)
  have H2 := (show Hid _ from And.intro hB2 r2)
  clear hread hb2 hB2 r2
  cases res with
  | error d =>
    obtain ⟨rfl, hd0⟩ := hr2
    have hR1 : RES = .error c := hR.symm
    subst hR1
    have ec : (c == 0) = false := by simpa using hd0
    have ec2 : (c != 0) = true := by simpa using hd0
    have HD := (show Hid _ from hd0)
    clear hR hd0
    go_wp2_with fail
    refine bodyPost_ret (v := .tuple #[.agg #[.int .i64 0, .int .i64 0, .string ⟨#[]⟩, .slice none 0 0, .slice none 0 0], .int .i64 c]) (by simp [results, Tryz.results11, go_sem, v0, v1, v2, v3, v4, hl2]) rfl (re_bad c HD.out ?_)
    have hk := H2.out.1
    have hz := hk.size
    repeat (with_reducible first | exact hk | refine qSetc ?_ (Nat.le_refl _) | refine qAl ?_ (by simp [World.setCell]; omega))
  | ok p =>
    obtain ⟨y, r⟩ := p
    obtain ⟨rfl, rfl, hjs, hjr, hrep⟩ := hr2
    simp only at hjr hrep hR
    obtain ⟨O4, hO4⟩ : ∃ O, O = Obj.cells #[.int .i64 x.kind, .int .i64 x.num, .string x.text, .slice al nl cl, .slice af nf cf] 31 := ⟨_, rfl⟩
    obtain ⟨W4, hW4⟩ : ∃ W, W = w2.alloc O4 := ⟨_, rfl⟩
    have hB4 : Below w2.heap.size w2 W4 := by rw [hW4]; exact (Below.refl _ _).alloc (Nat.le_refl _) _
    have r4 : W4.heap[w2.heap.size]? = some (.cells #[.int .i64 x.kind, .int .i64 x.num, .string x.text, .slice al nl cl, .slice af nf cf] 31) := by rw [hW4, heap_alloc_new, hO4]
    have r4' := (hB4.block _ hl2).trans H2.out.2
    obtain ⟨q0, q1, q2, q3, q4, qf⟩ := row5 r4
    obtain ⟨p0, p1, p2, p3, p4, pf⟩ := row5 r4'
    have hl4 := lt_of_heap r4
    have hl4' := lt_of_heap r4'
    have hbl := blank_any s hs j hjs W4
    have HP := (show Hid _ from And.intro hjr (And.intro hrep hB4))
    rw [hW4, hO4] at hbl
    clear hjr hrep r4 r4' hB4
    go_wp2_with fail
    refine hbl.mono ?_
    rintro e w5 ⟨⟨k2, rfl, hjk, hk2, hd2⟩, hw5⟩
    rw [← hO4, ← hW4] at hw5
    rw [hw5]
    rw [HP.out.1] at hd2
    clear hw5 hbl hW4 hO4 O4
    by_cases hk : k2 = s.size
    · have ek : ((k2 : Int) != (s.size : Int)) = false := by rw [hk]; simp
      have hsr : skip r = [] := by rw [← hd2, drop_end s k2 (by omega)]
      have hR1 : RES = .ok x := by rw [← hR, if_pos hsr]
      subst hR1
      clear hR hk hsr hd2
      go_wp2_with fail
      refine bodyPost_ret (v := .tuple #[.agg #[.int .i64 x.kind, .int .i64 x.num, .string x.text, .slice al nl cl, .slice af nf cf], .int .i64 0]) (by simp [results, Tryz.results11, go_sem, p0, p1, p2, p3, p4]) rfl ⟨x, al, nl, cl, af, nf, cf, 0, rfl, ?_, rfl, rfl, ?_⟩
      · have hk : Below w.heap.size w W4 := H2.out.1.trans (HP.out.2.2.mono H2.out.1.size)
        repeat (with_reducible first | exact hk | refine qSetc ?_ (Nat.le_refl _))
      · have hq : Rep (fun b => W.heap.size ≤ b) 16 W4 x (.slice al nl cl) (.slice af nf cf) := HP.out.2.1.move fun b hb hl => ⟨hb, HP.out.2.2.block b hl⟩
        have hno : ¬ (W.heap.size ≤ w.heap.size) := by omega
        refine Rep.move (ok := fun b => W.heap.size ≤ b) (fun b hb _ => ⟨by show w.heap.size ≤ b; have hb : W.heap.size ≤ b := hb; omega, rfl⟩) ?_
        repeat (with_reducible first | exact hq | refine rep_setc ?_ hno | refine rep_al ?_)
    · have ek : ((k2 : Int) != (s.size : Int)) = true := by simp; omega
      have hsr : ¬ skip r = [] := by
        rw [← hd2, drop_at s k2 (by omega)]
        simp
      have hR1 : RES = .error 1 := by rw [← hR, if_neg hsr]
      subst hR1
      clear hR hk hsr hd2
      go_wp2_with fail
      refine bodyPost_ret (v := .tuple #[.agg #[.int .i64 0, .int .i64 0, .string ⟨#[]⟩, .slice none 0 0, .slice none 0 0], .int .i64 1]) (by simp [results, Tryz.results11, go_sem, p0, p1, p2, p3, p4]) rfl (re_bad 1 (by decide) ?_)
      have hk : Below w.heap.size w W4 := H2.out.1.trans (HP.out.2.2.mono H2.out.1.size)
      repeat (with_reducible first | exact hk | refine qSetc ?_ (Nat.le_refl _))

def partsRow : Array Value := #[.string ⟨#[123]⟩, .string ⟨#[125]⟩, .string ⟨#[91]⟩, .string ⟨#[93]⟩, .string ⟨#[44]⟩, .string ⟨#[58]⟩, .string ⟨#[34, 97, 34]⟩, .string ⟨#[34, 98, 34]⟩, .string ⟨#[49]⟩, .string ⟨#[45, 50]⟩, .string ⟨#[32]⟩, .string ⟨#[10]⟩, .string ⟨#[110, 117, 108, 108]⟩, .string ⟨#[116, 114, 117, 101]⟩, .string ⟨#[102, 97, 108, 115, 101]⟩, .string ⟨#[48]⟩, .string ⟨#[45]⟩, .string ⟨#[48, 49]⟩, .string ⟨#[49, 46, 53]⟩, .string ⟨#[50, 101, 51]⟩, .string ⟨#[57, 50, 50, 51, 51, 55, 50, 48, 51, 54, 56, 53, 52, 55, 55, 53, 56, 48, 55]⟩, .string ⟨#[45, 57, 50, 50, 51, 51, 55, 50, 48, 51, 54, 56, 53, 52, 55, 55, 53, 56, 48, 56]⟩, .string ⟨#[57, 50, 50, 51, 51, 55, 50, 48, 51, 54, 56, 53, 52, 55, 55, 53, 56, 48, 56]⟩, .string ⟨#[34, 92, 117, 48, 48, 54, 49, 34]⟩, .string ⟨#[34]⟩, .string ⟨#[110, 117, 108]⟩, .string ⟨#[91, 49, 44, 50, 93]⟩, .string ⟨#[123, 34, 97, 34, 58, 49, 125]⟩, .string ⟨#[0]⟩, .string ⟨#[44, 44]⟩]
theorem parts_row : ∀ i : Fin 30, (match partsRow[i.val]? with | some (.string t) => decide (t.size ≤ 20) | _ => false) = true := by decide +kernel
theorem parts_at (r : Nat) (h : r < 30) : ∃ t : ByteArray, partsRow[r]? = some (.string t) ∧ t.size ≤ 20 := by
  have := parts_row ⟨r, h⟩
  simp only at this
  split at this
  · rename_i t ht
    exact ⟨t, ht, of_decide_eq_true this⟩
  · cases this
theorem part_nums (u : UInt8) : ∃ r : Nat, r < 30 ∧ wrap64 (u.toNat : Int) = (u.toNat : Int) ∧ (u.toNat : Int) % 30 = (r : Int) ∧ Int.tmod (u.toNat : Int) 30 = (r : Int) ∧ (r : Int) < 30 ∧ (0 : Int) ≤ (r : Int) := by
  have h := u.toNat_lt
  generalize u.toNat = v at h
  have h1 : (v : Int) % 30 = ((v % 30 : Nat) : Int) := by omega
  exact ⟨v % 30, by omega, by unfold wrap64; omega, h1, by rw [Int.tmod_eq_emod_of_nonneg (by omega)]; exact h1, by omega, by omega⟩
/-- a text, not too long. -/
def SomeT (n : Nat) (w : World) (e : Ending) (w' : World) : Prop := ∃ T : ByteArray, e = .returned (.string T) ∧ T.size ≤ n ∧ Below w.heap.size w w'
set_option maxRecDepth 100000 in
set_option maxHeartbeats 8000000 in
theorem parts_any (s : Value) (bs : List UInt8) (w : World) (hb : BytesAt w s bs) : Calls Tryz.prog 6 #[s] w (SomeT 1200 w) := by
  obtain ⟨a, cap, rfl, h1, h2, hcells⟩ := hb
  obtain ⟨O, hO⟩ : ∃ O, O = Obj.cells partsRow 9 := ⟨_, rfl⟩
  obtain ⟨W, hW⟩ : ∃ W, W = w.alloc O := ⟨_, rfl⟩
  have hWB : Below w.heap.size w W := by rw [hW]; exact (Below.refl _ _).alloc (Nat.le_refl _) _
  have hcr : ∀ r, r < 30 → ∃ t : ByteArray, W.cell? ⟨w.heap.size, r, none⟩ = some (.string t) ∧ t.size ≤ 20 := fun r hr => by
    obtain ⟨t, ht, hz⟩ := parts_at r hr
    have hh : W.heap[w.heap.size]? = some (.cells partsRow 9) := by rw [hW, heap_alloc_new, hO]
    refine ⟨t, ?_, hz⟩
    simp [World.cell?, hh, ht]
  have hm0 : 0 ≤ min (bs.length : Int) 60 := by omega
  have hm1 : min (bs.length : Int) 60 ≤ (cap : Int) := by omega
  obtain ⟨M, hM⟩ : ∃ M : Nat, min (bs.length : Int) 60 = (M : Int) := ⟨min bs.length 60, by omega⟩
  have hM1 : M ≤ 60 := by omega
  have hM2 : M ≤ bs.length := by omega
  have hM3 : (M : Int) ≤ (cap : Int) := by omega
  have hM4 : (0 : Int) ≤ (M : Int) := by omega
  have HH := (show Hid _ from And.intro hWB (And.intro hcr (And.intro hcells (And.intro hO hW))))
  clear hWB hcr hcells hm0 hm1
  rw [show partsRow = #[.string ⟨#[123]⟩, .string ⟨#[125]⟩, .string ⟨#[91]⟩, .string ⟨#[93]⟩, .string ⟨#[44]⟩, .string ⟨#[58]⟩, .string ⟨#[34, 97, 34]⟩, .string ⟨#[34, 98, 34]⟩, .string ⟨#[49]⟩, .string ⟨#[45, 50]⟩, .string ⟨#[32]⟩, .string ⟨#[10]⟩, .string ⟨#[110, 117, 108, 108]⟩, .string ⟨#[116, 114, 117, 101]⟩, .string ⟨#[102, 97, 108, 115, 101]⟩, .string ⟨#[48]⟩, .string ⟨#[45]⟩, .string ⟨#[48, 49]⟩, .string ⟨#[49, 46, 53]⟩, .string ⟨#[50, 101, 51]⟩, .string ⟨#[57, 50, 50, 51, 51, 55, 50, 48, 51, 54, 56, 53, 52, 55, 55, 53, 56, 48, 55]⟩, .string ⟨#[45, 57, 50, 50, 51, 51, 55, 50, 48, 51, 54, 56, 53, 52, 55, 55, 53, 56, 48, 56]⟩, .string ⟨#[57, 50, 50, 51, 51, 55, 50, 48, 51, 54, 56, 53, 52, 55, 55, 53, 56, 48, 56]⟩, .string ⟨#[34, 92, 117, 48, 48, 54, 49, 34]⟩, .string ⟨#[34]⟩, .string ⟨#[110, 117, 108]⟩, .string ⟨#[91, 49, 44, 50, 93]⟩, .string ⟨#[123, 34, 97, 34, 58, 49, 125]⟩, .string ⟨#[0]⟩, .string ⟨#[44, 44]⟩] from rfl] at hO
  go_enter Tryz.func6, Tryz.ntmps6
  go_wp2_with fail
  rw [← hO, ← hW]
  clear hO hW
  go_loopg [4, 6, 14] M (fun gg o _ i wr => ∃ (k : Nat) (B : ByteArray), k ≤ M ∧ M - k ≤ gg ∧ i = .int .i64 (k : Int) ∧ o = .string B ∧ B.size ≤ 20 * k ∧ Aside (wr = W))
  case atStart => exact ⟨0, ⟨#[]⟩, Nat.zero_le _, by omega, rfl, rfl, by decide, rfl⟩
  case round =>
    obtain ⟨k, B, hk, hgg, rfl, rfl, hBz, hWr⟩ := hrel
    have hBz2 : B.size ≤ 1200 := by omega
    by_cases hlt : k < M
    · have zk : (k : Int) < (M : Int) := by omega
      have zk0 : (0 : Int) ≤ (k : Int) := by omega
      obtain ⟨u, hu⟩ : ∃ u, bs[k]? = some u := ⟨_, List.getElem?_eq_getElem (by omega)⟩
      obtain ⟨hWB, hcr, hcells, _, _⟩ := HH.out
      obtain ⟨b0, o0, rfl, hcu⟩ := hcells (by intro e; rw [e] at hu; simp at hu)
      have hc0 := hcu k u hu
      have hcW : wr.cell? ⟨b0, o0 + k, none⟩ = some (.int .u8 u.toNat) := by
        rw [hWr.out, hWB.cell (lt_of_cell hc0)]; exact hc0
      obtain ⟨r, hr30, hwu, hm1, hm2, zr, zr0⟩ := part_nums u
      obtain ⟨t, ht, htz⟩ := hcr r hr30
      rw [← hWr.out] at ht
      clear hWB hcr hcells hcu hc0 hu hr30
      go_wp2_with fail
      go_roundg (M - (k + 1))
      case measure => omega
      case rel => exact ⟨k + 1, B ++ t, by omega, by omega, by go_num, rfl, (by rw [ByteArray.size_append]; omega), hWr.out⟩
    · have zk : ¬ (k : Int) < (M : Int) := by omega
      go_wp2_with fail
      go_ret
      have hfin : Below w.heap.size w wr := by rw [hWr.out]; exact HH.out.1
      exact ⟨B, rfl, hBz2, hfin⟩
end Go.Proofs.YtdcaohnaiepllaaGreatDoor
