/-
  The law's Put by its contract: values. Conditions: as stated.
-/
import Derived.Test.YtdcaohnaiepllaaGreatDoorJLP
namespace Go.Proofs.YtdcaohnaiepllaaGreatDoor
open Go.RowKit Go.Extern.Stop Go.Stop Go.Extern

set_option maxRecDepth 100000 in
set_option maxHeartbeats 4000000 in
theorem lput_plain (kd num : Int) (text : ByteArray) (hn : I64 num) (ht : text.size ≤ 10000) (h0 : 0 ≤ kd) (h3 : kd ≤ 3) (L F : List UInt8) (ls : List V) (fs : List (ByteArray × V)) (a1 : Option Addr) (n1 c1 : Nat) (a2 : Option Addr) (n2 c2 : Nat) (w : World) :
    Calls Tryz.prog 7 #[.agg #[.int .i64 kd, .int .i64 num, .string text, .slice a1 n1 c1, .slice a2 n2 c2]] w fun e w' => e = .returned (.string ⟨(stepL L F ⟨kd, num, text, ls, fs⟩).toArray⟩) ∧ Below w.heap.size w w' := by
  obtain ⟨O, hO⟩ : ∃ O, O = Obj.cells #[.int .i64 kd, .int .i64 num, .string text, .slice a1 n1 c1, .slice a2 n2 c2] 31 := ⟨_, rfl⟩
  have hBa : Below w.heap.size w (w.alloc O) := (Below.refl _ _).alloc (Nat.le_refl _) _
  have HB := (show Hid _ from hBa)
  rw [hO] at HB
  have hd := ldigits_any num hn (w.alloc O)
  have hq := Put_any text ht (w.alloc O)
  rw [hO] at hd hq
  clear hBa hO ht
  obtain rfl | rfl | rfl | rfl : kd = 0 ∨ kd = 1 ∨ kd = 2 ∨ kd = 3 := by omega
  · clear hd hq hn h0 h3
    show Calls _ _ _ _ fun e w' => e = .returned (.string ⟨#[110, 117, 108, 108]⟩) ∧ _
    go_enter Tryz.func7, Tryz.ntmps7
    go_wp2_with fail
    go_ret
    exact ⟨rfl, HB.out⟩
  · clear hd hq hn h0 h3
    by_cases h : num = 1
    · subst h
      show Calls _ _ _ _ fun e w' => e = .returned (.string ⟨#[116, 114, 117, 101]⟩) ∧ _
      go_enter Tryz.func7, Tryz.ntmps7
      go_wp2_with fail
      go_ret
      exact ⟨rfl, HB.out⟩
    · have e1 : (num == 1) = false := by simp; omega
      rw [show stepL L F ⟨1, num, text, ls, fs⟩ = wFalse by unfold stepL; simp [h]]
      show Calls _ _ _ _ fun e w' => e = .returned (.string ⟨#[102, 97, 108, 115, 101]⟩) ∧ _
      clear h
      go_enter Tryz.func7, Tryz.ntmps7
      go_wp2_with fail
      go_ret
      exact ⟨rfl, HB.out⟩
  · clear hq hn h0 h3
    rw [show stepL L F ⟨2, num, text, ls, fs⟩ = Lib.itoa num by unfold stepL; simp]
    obtain ⟨P, hP⟩ : ∃ P : ByteArray, (⟨(Lib.itoa num).toArray⟩ : ByteArray) = P := ⟨_, rfl⟩
    rw [hP] at hd ⊢
    clear hP
    go_enter Tryz.func7, Tryz.ntmps7
    go_wp2_with fail
    refine hd.mono ?_
    rintro e w1 ⟨rfl, hb1⟩
    have H1 := (show Hid _ from hb1)
    clear hd hb1
    go_wp2_with fail
    go_ret
    exact ⟨rfl, HB.out.trans (H1.out.mono HB.out.size)⟩
  · clear hd hn h0 h3
    rw [show stepL L F ⟨3, num, text, ls, fs⟩ = quoteL text.data.toList by unfold stepL; simp]
    obtain ⟨P, hP⟩ : ∃ P : ByteArray, (⟨(quoteL text.data.toList).toArray⟩ : ByteArray) = P := ⟨_, rfl⟩
    rw [hP] at hq ⊢
    clear hP
    go_enter Tryz.func7, Tryz.ntmps7
    go_wp2_with fail
    refine hq.mono ?_
    rintro e w1 ⟨rfl, hb1⟩
    have H1 := (show Hid _ from hb1)
    clear hq hb1
    go_wp2_with fail
    go_ret
    exact ⟨rfl, HB.out.trans (H1.out.mono HB.out.size)⟩

set_option maxRecDepth 100000 in
theorem lput_list_none (num : Int) (text : ByteArray) (f : Value) (hf : f = .slice none 0 0) (w : World) :
    Calls Tryz.prog 7 #[.agg #[.int .i64 4, .int .i64 num, .string text, .slice none 0 0, f]] w fun e w' => e = .returned (.string ⟨#[91, 93]⟩) ∧ Below w.heap.size w w' := by
  subst hf
  have hBa := fun O => (show Below w.heap.size w (w.alloc O) from (Below.refl _ _).alloc (Nat.le_refl _) _)
  have HB := (show Hid _ from hBa)
  clear hBa
  go_enter Tryz.func7, Tryz.ntmps7
  go_wp2_with fail
  refine wp_loop_rounds 1 ?_
  rw [rounds_succ]
  go_wp2_with fail
  go_ret
  exact ⟨rfl, HB.out _⟩
set_option maxRecDepth 100000 in
theorem lput_fields_none (num : Int) (text : ByteArray) (f : Value) (hf : f = .slice none 0 0) (w : World) :
    Calls Tryz.prog 7 #[.agg #[.int .i64 5, .int .i64 num, .string text, f, .slice none 0 0]] w fun e w' => e = .returned (.string ⟨#[123, 125]⟩) ∧ Below w.heap.size w w' := by
  subst hf
  have hBa := fun O => (show Below w.heap.size w (w.alloc O) from (Below.refl _ _).alloc (Nat.le_refl _) _)
  have HB := (show Hid _ from hBa)
  clear hBa
  go_enter Tryz.func7, Tryz.ntmps7
  go_wp2_with fail
  refine wp_loop_rounds 1 ?_
  rw [rounds_succ]
  go_wp2_with fail
  go_ret
  exact ⟨rfl, HB.out _⟩

theorem lput_any : ∀ n, LPutAt n
  | 0 => by
    rintro ⟨kd, num, text, ls, fs⟩ hn l f w ⟨h1, h2, rfl, rfl⟩ hlen
    simp only at h1 h2 ⊢
    subst h1 h2
    rw [printV_step] at hlen ⊢
    obtain ⟨p0, p1, p2, p3⟩ := hn.parts
    simp only at p0 p1 p2 p3
    by_cases h3 : kd ≤ 3
    · exact lput_plain kd num text p2 (Nat.le_trans p3.size (by decide)) p0 h3 _ _ _ _ _ _ _ _ _ _ w
    · obtain rfl | rfl : kd = 4 ∨ kd = 5 := by omega
      · exact lput_list_none num text _ rfl w
      · exact lput_fields_none num text _ rfl w
  | n + 1 => by
    rintro ⟨kd, num, text, ls, gs⟩ hn l f w hl hlen
    obtain ⟨⟨es, e1, e2, e3⟩, ⟨fs, f1, f2, f3⟩⟩ := id hl
    obtain ⟨_, _, _, _, _, _, _, k1, k2⟩ := id hn
    obtain ⟨a1, n1, c1, a2, n2, c2, rfl, rfl⟩ := hl.shape
    rw [printV_step] at hlen ⊢
    obtain ⟨p0, p1, p2, p3⟩ := hn.parts
    simp only at p0 p1 p2 p3 e1 e2 e3 f1 f2 f3 k1 k2
    by_cases h3 : kd ≤ 3
    · exact lput_plain kd num text p2 (Nat.le_trans p3.size (by decide)) p0 h3 _ _ _ _ _ _ _ _ _ _ w
    · obtain rfl | rfl : kd = 4 ∨ kd = 5 := by omega
      · refine lput_list n (lput_any n) num text _ _ _ w es _ e2 e3 (fun e he => k1 _ (by rw [← e1]; exact List.mem_map.2 ⟨e, he, rfl⟩)) _ (by rw [e1]) ?_
        show (sepBy (List.map (printV (n + 1)) ls)).length + 2 ≤ _
        simp [stepL] at hlen
        omega
      · refine lput_fields n (lput_any n) num text _ _ _ w fs _ f2 f3 (fun e he => ?_) _ (by rw [f1]) ?_
        · obtain ⟨⟨i, hi⟩, h⟩ := k2 e.pair (by rw [← f1]; exact List.mem_map.2 ⟨e, he, rfl⟩)
          exact ⟨by rw [show e.name = nameAt i from hi]; exact nameAt_size i, h⟩
        · show (sepBy (List.map (fieldL (n + 1)) gs)).length + 2 ≤ _
          simp [stepL] at hlen
          omega
end Go.Proofs.YtdcaohnaiepllaaGreatDoor
