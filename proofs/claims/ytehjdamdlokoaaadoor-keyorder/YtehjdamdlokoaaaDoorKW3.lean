/-
  The program's Put by its contract: it tells the key that the plain function putV writes. Conditions: as stated.
-/
import Derived.Test.YtehjdamdlokoaaaDoorKW2
namespace Go.Proofs.YtehjdamdlokoaaaDoor
open Go.RowKit

theorem own_string {w0 w : World} {s : Value} {l : List UInt8} (h : Ow w0 s l w) : (convert 22 9 s).run Tryd.prog w = .ok (.string ⟨l.toArray⟩) w := by
  rcases h.own.2 with ⟨rfl, h0⟩ | ⟨g, cap, cur, rfl, _⟩
  · obtain rfl := List.eq_nil_of_length_eq_zero h0
    rw [run_convert_bytes_string w 22 9 5 none 0 0 Tryd.underlying22 Tryd.underlying5 Tryd.underlying9]
    simp [Conv.bytesToString]
    rfl
  · refine run_convert_bytes_back w 22 9 5 ⟨g, 0, none⟩ cap l Tryd.underlying22 Tryd.underlying5 Tryd.underlying9 fun j hj => ?_
    refine h.own.cells (g := g) rfl j _ ?_
    unfold cellsB
    rw [List.getElem?_map, List.getElem?_eq_getElem hj]
    rfl

set_option maxRecDepth 100000 in
set_option maxHeartbeats 4000000 in
theorem put_step (kd num : Int) (text : ByteArray) (a1 : Option Addr) (n1 c1 : Nat) (a2 : Option Addr) (n2 c2 : Nat) (w0 w : World) (s : Value) (out : List UInt8) (h : Ow w0 s out w) (tl : List UInt8) (h0 : 0 ≤ kd) (h5 : kd ≤ 5) (hlen : out.length + 1 + tl.length ≤ 1000000000)
    (t0 : kd = 0 → tl = []) (t1 : kd = 1 → (num = 0 ∨ num = 1) ∧ tl = [UInt8.ofNat num.toNat])
    (t2 : kd = 2 → ∀ s1 l1 w1, Ow w0 s1 l1 w1 → l1.length + tl.length ≤ 1000000000 → Calls Tryd.prog 31 #[s1, .int .i64 num] w1 (Wrote w0 s1 w1 l1 tl))
    (t3 : kd = 3 → ∀ s1 l1 w1, Ow w0 s1 l1 w1 → l1.length + tl.length ≤ 1000000000 → Calls Tryd.prog 32 #[s1, .string text] w1 (Wrote w0 s1 w1 l1 tl))
    (t4 : kd = 4 → ∀ s1 l1 w1, Ow w0 s1 l1 w1 → l1.length + tl.length ≤ 1000000000 → Calls Tryd.prog 33 #[s1, .slice a1 n1 c1] w1 (Wrote w0 s1 w1 l1 tl))
    (t5 : kd = 5 → ∀ s1 l1 w1, Ow w0 s1 l1 w1 → l1.length + tl.length ≤ 1000000000 → Calls Tryd.prog 34 #[s1, .slice a2 n2 c2] w1 (Wrote w0 s1 w1 l1 tl)) :
    Calls Tryd.prog 21 #[s, .agg #[.int .i64 kd, .int .i64 num, .string text, .slice a1 n1 c1, .slice a2 n2 c2]] w (Wrote w0 s w out (UInt8.ofNat (kd.toNat + 1) :: tl)) := by
  obtain ⟨O, hO⟩ : ∃ O, O = Obj.cells #[.int .i64 kd, .int .i64 num, .string text, .slice a1 n1 c1, .slice a2 n2 c2] 28 := ⟨_, rfl⟩
  have hBa : Below w.heap.size w (w.alloc O) := (Below.refl _ _).alloc (Nat.le_refl _) _
  have OB := h.same hBa
  have hrO : (w.alloc O).heap[w.heap.size]? = some O := heap_alloc_new w O
  have hne : s.ownBlock ≠ some w.heap.size := fun e => by
    have := (h.own.lt _ e).2
    omega
  have KB : Kp s w s (w.alloc O) := Kp.of_below hBa
  rw [hO] at OB hrO KB
  have HA := (show Hid _ from OB)
  have HR := (show Hid _ from And.intro hrO hne)
  have HK := (show Hid _ from KB)
  have HB := (show Hid _ from hlen)
  have HT := (show Hid _ from And.intro t0 (And.intro t1 (And.intro t2 (And.intro t3 (And.intro t4 t5)))))
  clear hO hBa OB hrO hne KB h hlen t0 t1 t2 t3 t4 t5
  obtain rfl | rfl | rfl | rfl | rfl | rfl : kd = 0 ∨ kd = 1 ∨ kd = 2 ∨ kd = 3 ∨ kd = 4 ∨ kd = 5 := by omega
  · have et := HT.out.1 rfl
    subst et
    clear HT
    go_enter Tryd.func21, Tryd.ntmps21
    go_wp2_with (first | (at_builtin; refine append_bytes2 rfl (.tmp 5) (.tmp 10) rfl HA.out [1] _ 1 rfl (by decide) rfl rfl _ rfl (by simp) (by have := HB.out; omega) ?_; intro s1 u1 h1 k1; have r1 := k1.row HR.out.1 HR.out.2; obtain ⟨p0, p1, p2, p3, p4, pf⟩ := row5 r1; have hl1 := lt_of_heap r1; have H1 := (show Hid _ from And.intro h1 (HK.out.trans k1)); clear h1 k1 r1))
    go_ret
    exact ⟨s1, rfl, H1.out.1, H1.out.2⟩
  · obtain ⟨hn, et⟩ := HT.out.2.1 rfl
    subst et
    clear HT
    rcases hn with rfl | rfl
    · go_enter Tryd.func21, Tryd.ntmps21
      go_wp2_with (first | (at_builtin; refine append_bytes2 rfl (.tmp 5) (.tmp 10) rfl HA.out [2] _ 1 rfl (by decide) rfl rfl _ rfl (by simp) (by have := HB.out; omega) ?_; intro s1 u1 h1 k1; have r1 := k1.row HR.out.1 HR.out.2; obtain ⟨p0, p1, p2, p3, p4, pf⟩ := row5 r1; have hl1 := lt_of_heap r1; have H1 := (show Hid _ from And.intro h1 (HK.out.trans k1)); clear h1 k1 r1) | (at_builtin; refine append_bytes rfl (.tmp 16) (.tmp 20) rfl H1.out.1 [0] _ 1 rfl (by decide) rfl rfl rfl (by have := HB.out; rw [List.length_append]; simp only [List.length_cons, List.length_nil] at this ⊢; omega) ?_; intro s2 u2 h1 k1; have H2 := (show Hid _ from And.intro h1 (H1.out.2.trans k1)); clear h1 k1))
      go_ret
      exact ⟨s2, rfl, by simpa [List.append_assoc] using H2.out.1, H2.out.2⟩
    · go_enter Tryd.func21, Tryd.ntmps21
      go_wp2_with (first | (at_builtin; refine append_bytes2 rfl (.tmp 5) (.tmp 10) rfl HA.out [2] _ 1 rfl (by decide) rfl rfl _ rfl (by simp) (by have := HB.out; omega) ?_; intro s1 u1 h1 k1; have r1 := k1.row HR.out.1 HR.out.2; obtain ⟨p0, p1, p2, p3, p4, pf⟩ := row5 r1; have hl1 := lt_of_heap r1; have H1 := (show Hid _ from And.intro h1 (HK.out.trans k1)); clear h1 k1 r1) | (at_builtin; refine append_bytes rfl (.tmp 16) (.tmp 20) rfl H1.out.1 [1] _ 1 rfl (by decide) rfl rfl rfl (by have := HB.out; rw [List.length_append]; simp only [List.length_cons, List.length_nil] at this ⊢; omega) ?_; intro s2 u2 h1 k1; have H2 := (show Hid _ from And.intro h1 (H1.out.2.trans k1)); clear h1 k1))
      go_ret
      exact ⟨s2, rfl, by simpa [List.append_assoc] using H2.out.1, H2.out.2⟩
  · have HC := (show Hid _ from HT.out.2.2.1 rfl)
    clear HT
    go_enter Tryd.func21, Tryd.ntmps21
    go_wp2_with (first | (at_builtin; refine append_bytes2 rfl (.tmp 5) (.tmp 10) rfl HA.out [3] _ 1 rfl (by decide) rfl rfl _ rfl (by simp) (by have := HB.out; omega) ?_; intro s1 u1 h1 k1; have r1 := k1.row HR.out.1 HR.out.2; obtain ⟨p0, p1, p2, p3, p4, pf⟩ := row5 r1; have hl1 := lt_of_heap r1; have H1 := (show Hid _ from And.intro h1 (HK.out.trans k1)); clear h1 k1 r1))
    refine (HC.out s1 _ u1 H1.out.1 (by have := HB.out; rw [List.length_append]; simp only [List.length_cons, List.length_nil]; omega)).mono ?_
    rintro e u2 ⟨s2, rfl, h2, k2⟩
    have H2 := (show Hid _ from And.intro h2 (H1.out.2.trans k2))
    clear h2 k2
    go_wp2_with fail
    go_ret
    exact ⟨s2, rfl, by simpa [List.append_assoc] using H2.out.1, H2.out.2⟩
  · have HC := (show Hid _ from HT.out.2.2.2.1 rfl)
    clear HT
    go_enter Tryd.func21, Tryd.ntmps21
    go_wp2_with (first | (at_builtin; refine append_bytes2 rfl (.tmp 5) (.tmp 10) rfl HA.out [4] _ 1 rfl (by decide) rfl rfl _ rfl (by simp) (by have := HB.out; omega) ?_; intro s1 u1 h1 k1; have r1 := k1.row HR.out.1 HR.out.2; obtain ⟨p0, p1, p2, p3, p4, pf⟩ := row5 r1; have hl1 := lt_of_heap r1; have H1 := (show Hid _ from And.intro h1 (HK.out.trans k1)); clear h1 k1 r1))
    refine (HC.out s1 _ u1 H1.out.1 (by have := HB.out; rw [List.length_append]; simp only [List.length_cons, List.length_nil]; omega)).mono ?_
    rintro e u2 ⟨s2, rfl, h2, k2⟩
    have H2 := (show Hid _ from And.intro h2 (H1.out.2.trans k2))
    clear h2 k2
    go_wp2_with fail
    go_ret
    exact ⟨s2, rfl, by simpa [List.append_assoc] using H2.out.1, H2.out.2⟩
  · have HC := (show Hid _ from HT.out.2.2.2.2.1 rfl)
    clear HT
    go_enter Tryd.func21, Tryd.ntmps21
    go_wp2_with (first | (at_builtin; refine append_bytes2 rfl (.tmp 5) (.tmp 10) rfl HA.out [5] _ 1 rfl (by decide) rfl rfl _ rfl (by simp) (by have := HB.out; omega) ?_; intro s1 u1 h1 k1; have r1 := k1.row HR.out.1 HR.out.2; obtain ⟨p0, p1, p2, p3, p4, pf⟩ := row5 r1; have hl1 := lt_of_heap r1; have H1 := (show Hid _ from And.intro h1 (HK.out.trans k1)); clear h1 k1 r1))
    refine (HC.out s1 _ u1 H1.out.1 (by have := HB.out; rw [List.length_append]; simp only [List.length_cons, List.length_nil]; omega)).mono ?_
    rintro e u2 ⟨s2, rfl, h2, k2⟩
    have H2 := (show Hid _ from And.intro h2 (H1.out.2.trans k2))
    clear h2 k2
    go_wp2_with fail
    go_ret
    exact ⟨s2, rfl, by simpa [List.append_assoc] using H2.out.1, H2.out.2⟩
  · have HC := (show Hid _ from HT.out.2.2.2.2.2 rfl)
    clear HT
    go_enter Tryd.func21, Tryd.ntmps21
    go_wp2_with (first | (at_builtin; refine append_bytes2 rfl (.tmp 5) (.tmp 10) rfl HA.out [6] _ 1 rfl (by decide) rfl rfl _ rfl (by simp) (by have := HB.out; omega) ?_; intro s1 u1 h1 k1; have r1 := k1.row HR.out.1 HR.out.2; obtain ⟨p0, p1, p2, p3, p4, pf⟩ := row5 r1; have hl1 := lt_of_heap r1; have H1 := (show Hid _ from And.intro h1 (HK.out.trans k1)); clear h1 k1 r1))
    refine (HC.out s1 _ u1 H1.out.1 (by have := HB.out; rw [List.length_append]; simp only [List.length_cons, List.length_nil]; omega)).mono ?_
    rintro e u2 ⟨s2, rfl, h2, k2⟩
    have H2 := (show Hid _ from And.intro h2 (H1.out.2.trans k2))
    clear h2 k2
    go_wp2_with fail
    go_ret
    exact ⟨s2, rfl, by simpa [List.append_assoc] using H2.out.1, H2.out.2⟩

theorem putV_step (n : Nat) (v : V) : putV (n + 1) v = UInt8.ofNat (v.kind.toNat + 1) :: tailV (putV n) v := rfl
theorem put_any : ∀ n, PutAt n
  | 0 => by
    rintro w0 ⟨kd, num, text, ls, fs⟩ l f ⟨h1, h2, rfl, rfl⟩ hf s out w h hlen
    obtain ⟨k0, k5, kn, kb, kt⟩ := hf.here
    simp only at h1 h2 k0 k5 kn kb kt ⊢
    subst h1 h2
    rw [putV_step] at hlen ⊢
    simp only [List.length_cons] at hlen
    refine put_step kd num text _ _ _ _ _ _ w0 w s out h _ k0 k5 (by omega) (fun e => ?_) (fun e => ⟨kb e, ?_⟩) (fun e s1 l1 w1 o1 z1 => ?_) (fun e s1 l1 w1 o1 z1 => ?_) (fun e s1 l1 w1 o1 z1 => ?_) (fun e s1 l1 w1 o1 z1 => ?_)
    all_goals subst e
    · rfl
    · rfl
    · exact putInt_any num kn w0 w1 s1 l1 o1 z1
    · exact putText_any text w0 w1 s1 l1 o1 kt z1
    · exact putList_any 0 w0 [] (fun e => absurd rfl e) (.slice none 0 0) RowAt.nil (fun e he => by cases he) (fun e he => by cases he) s1 l1 w1 o1 [] rfl z1
    · exact putFields_any 0 w0 [] (fun e => absurd rfl e) (.slice none 0 0) RowAt.nil (fun e he => by cases he) (fun e he => by cases he) s1 l1 w1 o1 [] rfl z1
  | n + 1 => by
    rintro w0 ⟨kd, num, text, ls, gs⟩ l f hl hf s out w h hlen
    obtain ⟨⟨es, e1, e2, e3⟩, ⟨fs, f1, f2, f3⟩⟩ := id hl
    obtain ⟨k0, k5, kn, kb, kt⟩ := hf.here
    obtain ⟨_, hf1, hf2⟩ := hf
    obtain ⟨al, cl, af, cf, rfl, rfl⟩ := hl.slices
    simp only at e1 e2 f1 f2 k0 k5 kn kb kt hf1 hf2 ⊢
    rw [putV_step] at hlen ⊢
    simp only [List.length_cons] at hlen
    refine put_step kd num text _ _ _ _ _ _ w0 w s out h _ k0 k5 (by omega) (fun e => ?_) (fun e => ⟨kb e, ?_⟩) (fun e s1 l1 w1 o1 z1 => ?_) (fun e s1 l1 w1 o1 z1 => ?_) (fun e s1 l1 w1 o1 z1 => ?_) (fun e s1 l1 w1 o1 z1 => ?_)
    all_goals subst e
    · rfl
    · rfl
    · exact putInt_any num kn w0 w1 s1 l1 o1 z1
    · exact putText_any text w0 w1 s1 l1 o1 kt z1
    · exact putList_any n w0 es (fun _ => put_any n) _ e2 e3 (fun e he => hf1 _ (by rw [← e1]; exact List.mem_map_of_mem he)) s1 l1 w1 o1 ls e1.symm z1
    · exact putFields_any n w0 fs (fun _ => put_any n) _ f2 f3 (fun e he => hf2 e.pair (by rw [← f1]; exact List.mem_map_of_mem he)) s1 l1 w1 o1 gs f1.symm z1

set_option maxHeartbeats 1000000 in
theorem KPut_any (n : Nat) (v : V) (l f : Value) (w : World) (hl : Lies n w v l f) (hf : KFit n v) (hlen : (putV (n + 1) v).length ≤ 1000000000) {P : ByteArray} (hP : (⟨(putV (n + 1) v).toArray⟩ : ByteArray) = P) :
    Calls Tryd.prog 11 #[.agg #[.int .i64 v.kind, .int .i64 v.num, .string v.text, l, f]] w fun e w' => e = .returned (.string P) ∧ Below w.heap.size w w' := by
  obtain ⟨al, cl, af, cf, rfl, rfl⟩ := hl.slices
  obtain ⟨O, hO⟩ : ∃ O, O = Obj.cells #[.int .i64 v.kind, .int .i64 v.num, .string v.text, .slice al v.list.length cl, .slice af v.fields.length cf] 28 := ⟨_, rfl⟩
  have hBa : Below w.heap.size w (w.alloc O) := (Below.refl _ _).alloc (Nat.le_refl _) _
  have hcall := put_any n w v _ _ hl hf (.slice none 0 0) [] (w.alloc O) (Ow.nil hBa) (by simpa using hlen)
  rw [hO] at hcall
  have HP := (show Hid _ from hP)
  clear hO hBa hl hf hlen hP
  go_enter Tryd.func11, Tryd.ntmps11
  go_wp2_with fail
  refine hcall.mono ?_
  rintro e w1 ⟨s1, rfl, h1, k1⟩
  have hs := own_string h1
  rw [List.nil_append, HP.out] at hs
  have H1 := (show Hid _ from h1.below)
  clear hcall h1 k1
  go_wp2_with fail
  go_ret
  exact ⟨rfl, H1.out⟩
end Go.Proofs.YtehjdamdlokoaaaDoor
