/-
  The law's Put by its contract: values. Conditions: as stated.
-/
import Derived.Test.YtehjdamdlokoaaaDoorKL3
namespace Go.Proofs.YtehjdamdlokoaaaDoor
open Go.RowKit

set_option maxRecDepth 100000 in
theorem lput_list_none (num : Int) (text : ByteArray) (a2 : Option Addr) (n2 c2 : Nat) (w : World) :
    Calls Tryd.prog 12 #[.agg #[.int .i64 4, .int .i64 num, .string text, .slice none 0 0, .slice a2 n2 c2]] w fun e w' => e = .returned (.string ⟨#[5, 0]⟩) ∧ Below w.heap.size w w' := by
  have hcv := byte_str (w.alloc (.cells #[.int .i64 4, .int .i64 num, .string text, .slice none 0 0, .slice a2 n2 c2] 28)) (w.heap.size + 1) (by simp) 5 (by decide) (by decide)
  rw [show UInt8.ofNat (5 : Int).toNat = 5 from rfl] at hcv
  go_enter Tryd.func12, Tryd.ntmps12
  go_wp2_with fail
  refine wp_loop_rounds 1 ?_
  rw [rounds_succ]
  go_wp2_with fail
  go_ret
  exact ⟨rfl, kd_below w⟩
set_option maxRecDepth 100000 in
theorem lput_fields_none (num : Int) (text : ByteArray) (a2 : Option Addr) (n2 c2 : Nat) (w : World) :
    Calls Tryd.prog 12 #[.agg #[.int .i64 5, .int .i64 num, .string text, .slice a2 n2 c2, .slice none 0 0]] w fun e w' => e = .returned (.string ⟨#[6, 0]⟩) ∧ Below w.heap.size w w' := by
  have hcv := byte_str (w.alloc (.cells #[.int .i64 5, .int .i64 num, .string text, .slice a2 n2 c2, .slice none 0 0] 28)) (w.heap.size + 1) (by simp) 6 (by decide) (by decide)
  rw [show UInt8.ofNat (6 : Int).toNat = 6 from rfl] at hcv
  go_enter Tryd.func12, Tryd.ntmps12
  go_wp2_with fail
  refine wp_loop_rounds 1 ?_
  rw [rounds_succ]
  go_wp2_with fail
  go_ret
  exact ⟨rfl, kd_below w⟩
theorem lput_plain (n : Nat) (kd num : Int) (text : ByteArray) (ls : List V) (fs : List (ByteArray × V)) (hn : I64 num) (hb : kd = 1 → num = 0 ∨ num = 1) (ht : text.size ≤ 1000000) (h0 : 0 ≤ kd) (h3 : kd ≤ 3) (a1 : Option Addr) (n1 c1 : Nat) (a2 : Option Addr) (n2 c2 : Nat) (w : World) :
    Calls Tryd.prog 12 #[.agg #[.int .i64 kd, .int .i64 num, .string text, .slice a1 n1 c1, .slice a2 n2 c2]] w fun e w' => e = .returned (.string ⟨(putV (n + 1) ⟨kd, num, text, ls, fs⟩).toArray⟩) ∧ Below w.heap.size w w' := by
  obtain rfl | rfl | rfl | rfl : kd = 0 ∨ kd = 1 ∨ kd = 2 ∨ kd = 3 := by omega
  · exact lput_bare num text a1 n1 c1 a2 n2 c2 w
  · exact lput_bool text a1 n1 c1 a2 n2 c2 w num (hb rfl)
  · exact lput_int num text a1 n1 c1 a2 n2 c2 w hn
  · exact lput_text num text a1 n1 c1 a2 n2 c2 w ht
theorem lput_any : ∀ n, LPutAt n
  | 0 => by
    rintro ⟨kd, num, text, ls, fs⟩ hn l f w ⟨h1, h2, rfl, rfl⟩ hlen
    simp only at h1 h2 ⊢
    subst h1 h2
    obtain ⟨p0, p1, p2, p3⟩ := hn.partsK
    simp only at p0 p1 p2 p3
    by_cases h3 : kd ≤ 3
    · exact lput_plain 0 kd num text [] [] p2 p3.2 (Nat.le_trans p3.size (by decide)) p0 h3 _ _ _ _ _ _ w
    · obtain rfl | rfl : kd = 4 ∨ kd = 5 := by omega
      · exact lput_list_none num text _ _ _ w
      · exact lput_fields_none num text _ _ _ w
  | n + 1 => by
    rintro ⟨kd, num, text, ls, gs⟩ hn l f w hl hlen
    obtain ⟨⟨es, e1, e2, e3⟩, ⟨fs, f1, f2, f3⟩⟩ := id hl
    obtain ⟨_, _, _, _, _, _, _, k1, k2⟩ := id hn
    obtain ⟨a1, n1, c1, a2, n2, c2, rfl, rfl⟩ := hl.shape
    obtain ⟨p0, p1, p2, p3⟩ := hn.partsK
    simp only at p0 p1 p2 p3 e1 e2 e3 f1 f2 f3 k1 k2
    by_cases h3 : kd ≤ 3
    · exact lput_plain (n + 1) kd num text ls gs p2 p3.2 (Nat.le_trans p3.size (by decide)) p0 h3 _ _ _ _ _ _ w
    · obtain rfl | rfl : kd = 4 ∨ kd = 5 := by omega
      · have hlen' : (5 :: (ls.flatMap (putV (n + 1)) ++ [0])).length ≤ 100000 := hlen
        rw [List.length_cons, List.length_append, List.length_singleton] at hlen'
        exact lput_list n (lput_any n) num text _ _ _ w es _ e2 e3 (fun e he => k1 _ (by rw [← e1]; exact List.mem_map.2 ⟨e, he, rfl⟩)) ls e1.symm (by omega)
      · have hlen' : (6 :: (gs.flatMap (fieldL (putV (n + 1))) ++ [0])).length ≤ 100000 := hlen
        rw [List.length_cons, List.length_append, List.length_singleton] at hlen'
        refine lput_fields n (lput_any n) num text _ _ _ w fs _ f2 f3 (fun e he => ?_) gs f1.symm (by omega)
        obtain ⟨⟨i, hi⟩, h⟩ := k2 e.pair (by rw [← f1]; exact List.mem_map.2 ⟨e, he, rfl⟩)
        exact ⟨by rw [show e.name = nameAt i from hi]; exact nameAt_size i, h⟩
end Go.Proofs.YtehjdamdlokoaaaDoor
