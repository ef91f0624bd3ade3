/-
  WalkParts's walk. No conditions beyond those stated.
-/
import Derived.Test.YtoaekmighinmhaaWalkAllW
import Derived.Deep.Cut
namespace Go.Proofs.Ytoaekmighinmhaa
open Go.RowKit

theorem wpAnyH_mono {P : Program} {md : Region.Mode} {ops : Array Oper} {Q : Exit → Act → World → Prop} {S S' : World → Prop} (hs : ∀ w, S' w → S w) : ∀ (fuel : Nat) (listed : Array Bool) (a : Act) (w : World), wpAnyH P md ops Q S' fuel listed a w → wpAnyH P md ops Q S fuel listed a w
  | 0, _, _, _, h => h
  | fuel + 1, _, _, _, h => ⟨h.1, fun i hi => wpOp_mono (fun a' w' h' => ⟨hs w' h'.1, wpAnyH_mono hs fuel _ a' w' h'.2⟩) (h.2 i hi)⟩
theorem byte_at (W : World) (b : Nat) (k : Int) (h0 : 0 ≤ k) (h1 : k < 256) (h : W.heap[b]? = some (.cells #[.int .u8 k] 5 (0, 0))) : (convert 54 9 (.slice (some ⟨b, 0, none⟩) 1 1)).run Try.prog W = .ok (.string ⟨#[UInt8.ofNat k.toNat]⟩) W := by
  refine run_convert_bytes_back _ 54 9 5 ⟨b, 0, none⟩ 1 [UInt8.ofNat k.toNat] Try.underlying54 Try.underlying5 Try.underlying9 fun j hj => ?_
  have hj0 : j = 0 := by simp at hj; exact hj
  subst hj0
  have e : (UInt8.ofNat k.toNat).toNat = k.toNat := by rw [UInt8.toNat_ofNat']; omega
  have e2 : ((([UInt8.ofNat k.toNat])[0]'hj).toNat : Int) = k := by
    show ((UInt8.ofNat k.toNat).toNat : Int) = k
    rw [e]; omega
  rw [e2]
  exact World.news_of_block h 0 _ rfl
theorem gtrN (a b : ByteArray) : (!Op.bytesLess a.toList b.toList && !(a.toList == b.toList)) = decide (0 < cmpT a b) := by
  rw [show Op.bytesLess a.toList b.toList = decide (cmpT a b < 0) from bytesLess_eq _ _, beq_cmpT]
  rcases cmpT_range a b with h | h | h <;> rw [h] <;> rfl
/-- a key of one letter. -/
def keyN (x : Int) : ByteArray := ⟨#[UInt8.ofNat (97 + x % 8).toNat]⟩
theorem keyN_ne (x : Int) : ¬ cmpT (keyN x) ⟨#[]⟩ = 0 := by
  unfold keyN
  have h : x % 8 = 0 ∨ x % 8 = 1 ∨ x % 8 = 2 ∨ x % 8 = 3 ∨ x % 8 = 4 ∨ x % 8 = 5 ∨ x % 8 = 6 ∨ x % 8 = 7 := by omega
  rcases h with h | h | h | h | h | h | h | h <;> rw [h] <;> decide +kernel
set_option maxRecDepth 100000 in
set_option maxHeartbeats 8000000 in
theorem WalkParts_walk (v0 : Value) (acts : List Ac) (a b c : Int) (hra : 0 ≤ a ∧ a < 256) (hrb : 0 ≤ b ∧ b < 256) (hrc : 0 ≤ c ∧ c < 256) (w : World) (ha : ActsAt w v0 acts) :
    Calls Try.prog 7 #[v0, .int .u8 a, .int .u8 b, .int .u8 c] w fun e w' => e = .returned (.bool true) ∧ Below w.heap.size w w' := by
  have HR := (show Hid _ from And.intro hra (And.intro hrb hrc))
  obtain ⟨sa, hsa⟩ : ∃ s, s = keyN a := ⟨_, rfl⟩
  obtain ⟨sb, hsb⟩ : ∃ s, s = keyN b := ⟨_, rfl⟩
  obtain ⟨sc, hsc⟩ : ∃ s, s = keyN c := ⟨_, rfl⟩
  have HS := (show Hid _ from And.intro hsa (And.intro hsb hsc))
  clear hra hrb hrc hsa hsb hsc
  go_enter Try.func7, Try.ntmps7
  go_wp2_with fail
  refine (awake9_any w).mono ?_
  rintro e w1 ⟨rfl, hb1⟩
  have HL := (show Hid _ from laid_any v0 acts w1 (ha.below hb1))
  have HB1 := (show Hid _ from And.intro hb1 ha)
  clear hb1 ha
  go_wp2_with fail
  refine Calls.mono HL.out ?_
  rintro e w2 ⟨T, lv, l, rfl, hB, hln, hlow⟩
  have HB : Hid (Both w1 w2 T l lv l ∧ l.length ≤ 60 ∧ LowE l ∧ Below w.heap.size w w2) := ⟨hB, hln, hlow, HB1.out.1.trans (hB.below.mono HB1.out.1.size)⟩
  clear hB hln hlow HL HB1
  go_wp2_with fail
  go_cut [11, 12, 13] from 32 (fun s11 s12 s13 wr => s11 = .string sa ∧ s12 = .string sb ∧ s13 = .string sc ∧ Aside (Below w2.heap.size w2 wr))
  case first =>
    obtain ⟨hra, hrb, hrc⟩ := HR.out
    have cva := fun (W : World) (H : Nat) (h : W.heap[H]? = some (.cells #[.int .u8 (97 + a % 8)] 5 (0, 0))) => (byte_at W H (97 + a % 8) (by omega) (by omega) h).trans (by rw [HS.out.1]; rfl : _ = Result.ok (.string sa) W)
    have cvb := fun (W : World) (H : Nat) (h : W.heap[H]? = some (.cells #[.int .u8 (97 + b % 8)] 5 (0, 0))) => (byte_at W H (97 + b % 8) (by omega) (by omega) h).trans (by rw [HS.out.2.1]; rfl : _ = Result.ok (.string sb) W)
    have cvc := fun (W : World) (H : Nat) (h : W.heap[H]? = some (.cells #[.int .u8 (97 + c % 8)] 5 (0, 0))) => (byte_at W H (97 + c % 8) (by omega) (by omega) h).trans (by rw [HS.out.2.2]; rfl : _ = Result.ok (.string sc) W)
    have CV := (show Hid _ from And.intro cva (And.intro cvb cvc))
    clear cva cvb cvc
    have ta : a.tmod 8 = a % 8 := Int.tmod_eq_emod_of_nonneg hra.1
    have tb : b.tmod 8 = b % 8 := Int.tmod_eq_emod_of_nonneg hrb.1
    have tc : c.tmod 8 = c % 8 := Int.tmod_eq_emod_of_nonneg hrc.1
    have ma : IntKind.u8.wrap (97 + a % 8) = 97 + a % 8 := by rw [IntKind.wrap_u8]; omega
    have mb : IntKind.u8.wrap (97 + b % 8) = 97 + b % 8 := by rw [IntKind.wrap_u8]; omega
    have mc : IntKind.u8.wrap (97 + c % 8) = 97 + c % 8 := by rw [IntKind.wrap_u8]; omega
    have h0 : (fun w' : World => Below w2.heap.size w2 w') w2.drew := (Below.refl _ _).drew
    refine wp_region_held (S := fun w' => Below w2.heap.size w2 w') mixed ?_
    refine wpAnyH_take (i := 0) (oi := ⟨_, _, _, _, _, _⟩) (v := ?v1) rfl (by kernel_rfl) (by kernel_rfl) (by kernel_rfl) (fun _ _ _ h => h) (Or.inl ⟨by rfl, ?hy1⟩) h0 ?rest1
    case hy1 => (intro w hSw; (try dsimp only at hSw); go_simp; try with_reducible rfl)
    simp only [Act.put, List.setIfInBounds_toArray, List.set_cons_zero, List.set_cons_succ]
    refine wpAnyH_take (i := 1) (oi := ⟨_, _, _, _, _, _⟩) (v := ?v2) rfl (by kernel_rfl) (by kernel_rfl) (by kernel_rfl) (fun _ _ _ h => h) (Or.inl ⟨by rfl, ?hy2⟩) h0 ?rest2
    case hy2 => (intro w hSw; (try dsimp only at hSw); go_simp; try with_reducible rfl)
    simp only [Act.put, List.setIfInBounds_toArray, List.set_cons_zero, List.set_cons_succ]
    refine wpAnyH_take (i := 2) (oi := ⟨_, _, _, _, _, _⟩) (v := ?v3) rfl (by kernel_rfl) (by kernel_rfl) (by kernel_rfl) (fun _ _ _ h => h) (Or.inl ⟨by rfl, ?hy3⟩) h0 ?rest3
    case hy3 => (intro w hSw; (try dsimp only at hSw); go_simp; try with_reducible rfl)
    simp only [Act.put, List.setIfInBounds_toArray, List.set_cons_zero, List.set_cons_succ]
    refine wpAnyH_take (i := 5) (oi := ⟨_, _, _, _, _, _⟩) (v := ?v4) rfl (by kernel_rfl) (by kernel_rfl) (by kernel_rfl) (fun _ _ _ h => h) (Or.inl ⟨by rfl, ?hy4⟩) h0 ?rest4
    case hy4 => (intro w hSw; (try dsimp only at hSw); go_simp; try with_reducible rfl)
    simp only [Act.put, List.setIfInBounds_toArray, List.set_cons_zero, List.set_cons_succ]
    refine wpAnyH_take (i := 6) (oi := ⟨_, _, _, _, _, _⟩) (v := ?v5) rfl (by kernel_rfl) (by kernel_rfl) (by kernel_rfl) (fun _ _ _ h => h) (Or.inl ⟨by rfl, ?hy5⟩) h0 ?rest5
    case hy5 => (intro w hSw; (try dsimp only at hSw); go_simp; try with_reducible rfl)
    simp only [Act.put, List.setIfInBounds_toArray, List.set_cons_zero, List.set_cons_succ]
    refine wpAnyH_take (i := 7) (oi := ⟨_, _, _, _, _, _⟩) (v := ?v6) rfl (by kernel_rfl) (by kernel_rfl) (by kernel_rfl) (fun _ _ _ h => h) (Or.inl ⟨by rfl, ?hy6⟩) h0 ?rest6
    case hy6 => (intro w hSw; (try dsimp only at hSw); go_simp; try with_reducible rfl)
    simp only [Act.put, List.setIfInBounds_toArray, List.set_cons_zero, List.set_cons_succ]
    refine wpAnyH_take (i := 10) (oi := ⟨_, _, _, _, _, _⟩) (v := ?v7) rfl (by kernel_rfl) (by kernel_rfl) (by kernel_rfl) (fun _ _ _ h => h) (Or.inl ⟨by rfl, ?hy7⟩) h0 ?rest7
    case hy7 => (intro w hSw; (try dsimp only at hSw); go_simp; try with_reducible rfl)
    simp only [Act.put, List.setIfInBounds_toArray, List.set_cons_zero, List.set_cons_succ]
    refine wpAnyH_take (i := 11) (oi := ⟨_, _, _, _, _, _⟩) (v := ?v8) rfl (by kernel_rfl) (by kernel_rfl) (by kernel_rfl) (fun _ _ _ h => h) (Or.inl ⟨by rfl, ?hy8⟩) h0 ?rest8
    case hy8 => (intro w hSw; (try dsimp only at hSw); go_simp; try with_reducible rfl)
    simp only [Act.put, List.setIfInBounds_toArray, List.set_cons_zero, List.set_cons_succ]
    refine wpAnyH_take (i := 12) (oi := ⟨_, _, _, _, _, _⟩) (v := ?v9) rfl (by kernel_rfl) (by kernel_rfl) (by kernel_rfl) (fun _ _ _ h => h) (Or.inl ⟨by rfl, ?hy9⟩) h0 ?rest9
    case hy9 => (intro w hSw; (try dsimp only at hSw); go_simp; try with_reducible rfl)
    simp only [Act.put, List.setIfInBounds_toArray, List.set_cons_zero, List.set_cons_succ]
    refine wpAnyH_ready (rs := [3, 8, 13]) (by kernel_rfl) (by simp) ?_
    refine AllReadyH.cons (o := ⟨_, _, _, _, _, _⟩) rfl (fun K hK => ?_) (AllReadyH.cons (o := ⟨_, _, _, _, _, _⟩) rfl (fun K hK => ?_) (AllReadyH.cons (o := ⟨_, _, _, _, _, _⟩) rfl (fun K hK => ?_) AllReadyH.nil))
    · obtain ⟨Wa, hWa⟩ : ∃ W, (w2.alloc (.cells #[.int .u8 (97 + a % 8)] 5)).drew = W := ⟨_, rfl⟩
      have hab : Below w2.heap.size w2 Wa := by rw [← hWa]; exact ((Below.refl _ _).alloc (Nat.le_refl _) _).drew
      have han : Wa.heap[w2.heap.size]? = some (.cells #[.int .u8 (97 + a % 8)] 5 (0, 0)) := by rw [← hWa]; exact heap_alloc_new w2 _
      have ha : Below w2.heap.size w2 Wa := hab
      go_simp
      refine hK.out _ _ ha (fun hHeld => ?_)
      clear hK K hHeld
      try simp only [Act.put, List.setIfInBounds_toArray, List.set_cons_zero, List.set_cons_succ]
      refine wpAnyH_mono (S' := fun w' => (Below w2.heap.size w2 w') ∧ w'.heap[w2.heap.size]? = some (.cells #[.int .u8 (97 + a % 8)] 5 (0, 0))) (fun _ h => h.1) _ _ _ _ ?_
      have ga : (fun w' : World => (Below w2.heap.size w2 w') ∧ w'.heap[w2.heap.size]? = some (.cells #[.int .u8 (97 + a % 8)] 5 (0, 0))) Wa := ⟨ha, han⟩
      have PC := fun (w' : World) (h : (Below w2.heap.size w2 w') ∧ w'.heap[w2.heap.size]? = some (.cells #[.int .u8 (97 + a % 8)] 5 (0, 0))) => CV.out.1 w' w2.heap.size h.2
      refine wpAnyH_take (i := 4) (oi := ⟨_, _, _, _, _, _⟩) (v := ?v10) rfl (by kernel_rfl) (by kernel_rfl) (by kernel_rfl) (fun _ _ _ h => h) (Or.inl ⟨by rfl, ?hy10⟩) ga ?rest10
      case hy10 => (intro w hSw; (try dsimp only at hSw); go_simp; try with_reducible rfl)
      simp only [Act.put, List.setIfInBounds_toArray, List.set_cons_zero, List.set_cons_succ]
      clear PC hWa
      refine wpAnyH_take (i := 15) (oi := ⟨_, _, _, _, _, _⟩) (v := ?v11) rfl (by kernel_rfl) (by kernel_rfl) (by kernel_rfl) (fun _ _ _ h => h) (Or.inl ⟨by rfl, ?hy11⟩) ga ?rest11
      case hy11 => (intro w hSw; (try dsimp only at hSw); go_simp; try with_reducible rfl)
      simp only [Act.put, List.setIfInBounds_toArray, List.set_cons_zero, List.set_cons_succ]
      refine wpAnyH_ready (rs := [8, 13]) (by kernel_rfl) (by simp) ?_
      refine AllReadyH.cons (o := ⟨_, _, _, _, _, _⟩) rfl (fun K hK => ?_) (AllReadyH.cons (o := ⟨_, _, _, _, _, _⟩) rfl (fun K hK => ?_) AllReadyH.nil)
      · obtain ⟨Wab, hWab⟩ : ∃ W, Wa.alloc (.cells #[.int .u8 (97 + b % 8)] 5) = W := ⟨_, rfl⟩
        have habb : Below Wa.heap.size Wa Wab := by rw [← hWab]; exact (Below.refl _ _).alloc (Nat.le_refl _) _
        have habn : Wab.heap[Wa.heap.size]? = some (.cells #[.int .u8 (97 + b % 8)] 5 (0, 0)) := by rw [← hWab]; exact heap_alloc_new Wa _
        have hab : (Below w2.heap.size w2 Wab) ∧ Wab.heap[w2.heap.size]? = some (.cells #[.int .u8 (97 + a % 8)] 5 (0, 0)) := ⟨Below.trans ga.1 (habb.mono ga.1.size), (habb.block _ (lt_of_heap ga.2)).trans ga.2⟩
        go_simp
        refine hK.out _ _ hab (fun hHeld => ?_)
        clear hK K hHeld
        try simp only [Act.put, List.setIfInBounds_toArray, List.set_cons_zero, List.set_cons_succ]
        refine wpAnyH_mono (S' := fun w' => ((Below w2.heap.size w2 w') ∧ w'.heap[w2.heap.size]? = some (.cells #[.int .u8 (97 + a % 8)] 5 (0, 0))) ∧ w'.heap[Wa.heap.size]? = some (.cells #[.int .u8 (97 + b % 8)] 5 (0, 0))) (fun _ h => h.1) _ _ _ _ ?_
        have gab : (fun w' : World => ((Below w2.heap.size w2 w') ∧ w'.heap[w2.heap.size]? = some (.cells #[.int .u8 (97 + a % 8)] 5 (0, 0))) ∧ w'.heap[Wa.heap.size]? = some (.cells #[.int .u8 (97 + b % 8)] 5 (0, 0))) Wab := ⟨hab, habn⟩
        have PC := fun (w' : World) (h : ((Below w2.heap.size w2 w') ∧ w'.heap[w2.heap.size]? = some (.cells #[.int .u8 (97 + a % 8)] 5 (0, 0))) ∧ w'.heap[Wa.heap.size]? = some (.cells #[.int .u8 (97 + b % 8)] 5 (0, 0))) => CV.out.2.1 w' Wa.heap.size h.2
        refine wpAnyH_take (i := 9) (oi := ⟨_, _, _, _, _, _⟩) (v := ?v12) rfl (by kernel_rfl) (by kernel_rfl) (by kernel_rfl) (fun _ _ _ h => h) (Or.inl ⟨by rfl, ?hy12⟩) gab ?rest12
        case hy12 => (intro w hSw; (try dsimp only at hSw); go_simp; try with_reducible rfl)
        simp only [Act.put, List.setIfInBounds_toArray, List.set_cons_zero, List.set_cons_succ]
        clear PC hWab
        refine wpAnyH_take (i := 16) (oi := ⟨_, _, _, _, _, _⟩) (v := ?v13) rfl (by kernel_rfl) (by kernel_rfl) (by kernel_rfl) (fun _ _ _ h => h) (Or.inl ⟨by rfl, ?hy13⟩) gab ?rest13
        case hy13 => (intro w hSw; (try dsimp only at hSw); go_simp; try with_reducible rfl)
        simp only [Act.put, List.setIfInBounds_toArray, List.set_cons_zero, List.set_cons_succ]
        refine wpAnyH_ready (rs := [13]) (by kernel_rfl) (by simp) ?_
        refine AllReadyH.cons (o := ⟨_, _, _, _, _, _⟩) rfl (fun K hK => ?_) AllReadyH.nil
        · obtain ⟨Wabc, hWabc⟩ : ∃ W, Wab.alloc (.cells #[.int .u8 (97 + c % 8)] 5) = W := ⟨_, rfl⟩
          have habcb : Below Wab.heap.size Wab Wabc := by rw [← hWabc]; exact (Below.refl _ _).alloc (Nat.le_refl _) _
          have habcn : Wabc.heap[Wab.heap.size]? = some (.cells #[.int .u8 (97 + c % 8)] 5 (0, 0)) := by rw [← hWabc]; exact heap_alloc_new Wab _
          have habc : ((Below w2.heap.size w2 Wabc) ∧ Wabc.heap[w2.heap.size]? = some (.cells #[.int .u8 (97 + a % 8)] 5 (0, 0))) ∧ Wabc.heap[Wa.heap.size]? = some (.cells #[.int .u8 (97 + b % 8)] 5 (0, 0)) := ⟨⟨Below.trans gab.1.1 (habcb.mono gab.1.1.size), (habcb.block _ (lt_of_heap gab.1.2)).trans gab.1.2⟩, (habcb.block _ (lt_of_heap gab.2)).trans gab.2⟩
          go_simp
          refine hK.out _ _ habc (fun hHeld => ?_)
          clear hK K hHeld
          try simp only [Act.put, List.setIfInBounds_toArray, List.set_cons_zero, List.set_cons_succ]
          refine wpAnyH_mono (S' := fun w' => (((Below w2.heap.size w2 w') ∧ w'.heap[w2.heap.size]? = some (.cells #[.int .u8 (97 + a % 8)] 5 (0, 0))) ∧ w'.heap[Wa.heap.size]? = some (.cells #[.int .u8 (97 + b % 8)] 5 (0, 0))) ∧ w'.heap[Wab.heap.size]? = some (.cells #[.int .u8 (97 + c % 8)] 5 (0, 0))) (fun _ h => h.1) _ _ _ _ ?_
          have gabc : (fun w' : World => (((Below w2.heap.size w2 w') ∧ w'.heap[w2.heap.size]? = some (.cells #[.int .u8 (97 + a % 8)] 5 (0, 0))) ∧ w'.heap[Wa.heap.size]? = some (.cells #[.int .u8 (97 + b % 8)] 5 (0, 0))) ∧ w'.heap[Wab.heap.size]? = some (.cells #[.int .u8 (97 + c % 8)] 5 (0, 0))) Wabc := ⟨habc, habcn⟩
          have PC := fun (w' : World) (h : (((Below w2.heap.size w2 w') ∧ w'.heap[w2.heap.size]? = some (.cells #[.int .u8 (97 + a % 8)] 5 (0, 0))) ∧ w'.heap[Wa.heap.size]? = some (.cells #[.int .u8 (97 + b % 8)] 5 (0, 0))) ∧ w'.heap[Wab.heap.size]? = some (.cells #[.int .u8 (97 + c % 8)] 5 (0, 0))) => CV.out.2.2 w' Wab.heap.size h.2
          refine wpAnyH_take (i := 14) (oi := ⟨_, _, _, _, _, _⟩) (v := ?v14) rfl (by kernel_rfl) (by kernel_rfl) (by kernel_rfl) (fun _ _ _ h => h) (Or.inl ⟨by rfl, ?hy14⟩) gabc ?rest14
          case hy14 => (intro w hSw; (try dsimp only at hSw); go_simp; try with_reducible rfl)
          simp only [Act.put, List.setIfInBounds_toArray, List.set_cons_zero, List.set_cons_succ]
          clear PC hWabc
          refine wpAnyH_take (i := 17) (oi := ⟨_, _, _, _, _, _⟩) (v := ?v15) rfl (by kernel_rfl) (by kernel_rfl) (by kernel_rfl) (fun _ _ _ h => h) (Or.inl ⟨by rfl, ?hy15⟩) gabc ?rest15
          case hy15 => (intro w hSw; (try dsimp only at hSw); go_simp; try with_reducible rfl)
          simp only [Act.put, List.setIfInBounds_toArray, List.set_cons_zero, List.set_cons_succ]
          refine wpAnyH_done (by kernel_rfl) ?_ _
          go_wp2
          go_meet
          exact ⟨rfl, rfl, rfl, gabc.1.1.1⟩
      · obtain ⟨Wac, hWac⟩ : ∃ W, Wa.alloc (.cells #[.int .u8 (97 + c % 8)] 5) = W := ⟨_, rfl⟩
        have hacb : Below Wa.heap.size Wa Wac := by rw [← hWac]; exact (Below.refl _ _).alloc (Nat.le_refl _) _
        have hacn : Wac.heap[Wa.heap.size]? = some (.cells #[.int .u8 (97 + c % 8)] 5 (0, 0)) := by rw [← hWac]; exact heap_alloc_new Wa _
        have hac : (Below w2.heap.size w2 Wac) ∧ Wac.heap[w2.heap.size]? = some (.cells #[.int .u8 (97 + a % 8)] 5 (0, 0)) := ⟨Below.trans ga.1 (hacb.mono ga.1.size), (hacb.block _ (lt_of_heap ga.2)).trans ga.2⟩
        go_simp
        refine hK.out _ _ hac (fun hHeld => ?_)
        clear hK K hHeld
        try simp only [Act.put, List.setIfInBounds_toArray, List.set_cons_zero, List.set_cons_succ]
        refine wpAnyH_mono (S' := fun w' => ((Below w2.heap.size w2 w') ∧ w'.heap[w2.heap.size]? = some (.cells #[.int .u8 (97 + a % 8)] 5 (0, 0))) ∧ w'.heap[Wa.heap.size]? = some (.cells #[.int .u8 (97 + c % 8)] 5 (0, 0))) (fun _ h => h.1) _ _ _ _ ?_
        have gac : (fun w' : World => ((Below w2.heap.size w2 w') ∧ w'.heap[w2.heap.size]? = some (.cells #[.int .u8 (97 + a % 8)] 5 (0, 0))) ∧ w'.heap[Wa.heap.size]? = some (.cells #[.int .u8 (97 + c % 8)] 5 (0, 0))) Wac := ⟨hac, hacn⟩
        have PC := fun (w' : World) (h : ((Below w2.heap.size w2 w') ∧ w'.heap[w2.heap.size]? = some (.cells #[.int .u8 (97 + a % 8)] 5 (0, 0))) ∧ w'.heap[Wa.heap.size]? = some (.cells #[.int .u8 (97 + c % 8)] 5 (0, 0))) => CV.out.2.2 w' Wa.heap.size h.2
        refine wpAnyH_take (i := 14) (oi := ⟨_, _, _, _, _, _⟩) (v := ?v16) rfl (by kernel_rfl) (by kernel_rfl) (by kernel_rfl) (fun _ _ _ h => h) (Or.inl ⟨by rfl, ?hy16⟩) gac ?rest16
        case hy16 => (intro w hSw; (try dsimp only at hSw); go_simp; try with_reducible rfl)
        simp only [Act.put, List.setIfInBounds_toArray, List.set_cons_zero, List.set_cons_succ]
        clear PC hWac
        refine wpAnyH_ready (rs := [8]) (by kernel_rfl) (by simp) ?_
        refine AllReadyH.cons (o := ⟨_, _, _, _, _, _⟩) rfl (fun K hK => ?_) AllReadyH.nil
        · obtain ⟨Wacb, hWacb⟩ : ∃ W, Wac.alloc (.cells #[.int .u8 (97 + b % 8)] 5) = W := ⟨_, rfl⟩
          have hacbb : Below Wac.heap.size Wac Wacb := by rw [← hWacb]; exact (Below.refl _ _).alloc (Nat.le_refl _) _
          have hacbn : Wacb.heap[Wac.heap.size]? = some (.cells #[.int .u8 (97 + b % 8)] 5 (0, 0)) := by rw [← hWacb]; exact heap_alloc_new Wac _
          have hacb : ((Below w2.heap.size w2 Wacb) ∧ Wacb.heap[w2.heap.size]? = some (.cells #[.int .u8 (97 + a % 8)] 5 (0, 0))) ∧ Wacb.heap[Wa.heap.size]? = some (.cells #[.int .u8 (97 + c % 8)] 5 (0, 0)) := ⟨⟨Below.trans gac.1.1 (hacbb.mono gac.1.1.size), (hacbb.block _ (lt_of_heap gac.1.2)).trans gac.1.2⟩, (hacbb.block _ (lt_of_heap gac.2)).trans gac.2⟩
          go_simp
          refine hK.out _ _ hacb (fun hHeld => ?_)
          clear hK K hHeld
          try simp only [Act.put, List.setIfInBounds_toArray, List.set_cons_zero, List.set_cons_succ]
          refine wpAnyH_mono (S' := fun w' => (((Below w2.heap.size w2 w') ∧ w'.heap[w2.heap.size]? = some (.cells #[.int .u8 (97 + a % 8)] 5 (0, 0))) ∧ w'.heap[Wa.heap.size]? = some (.cells #[.int .u8 (97 + c % 8)] 5 (0, 0))) ∧ w'.heap[Wac.heap.size]? = some (.cells #[.int .u8 (97 + b % 8)] 5 (0, 0))) (fun _ h => h.1) _ _ _ _ ?_
          have gacb : (fun w' : World => (((Below w2.heap.size w2 w') ∧ w'.heap[w2.heap.size]? = some (.cells #[.int .u8 (97 + a % 8)] 5 (0, 0))) ∧ w'.heap[Wa.heap.size]? = some (.cells #[.int .u8 (97 + c % 8)] 5 (0, 0))) ∧ w'.heap[Wac.heap.size]? = some (.cells #[.int .u8 (97 + b % 8)] 5 (0, 0))) Wacb := ⟨hacb, hacbn⟩
          have PC := fun (w' : World) (h : (((Below w2.heap.size w2 w') ∧ w'.heap[w2.heap.size]? = some (.cells #[.int .u8 (97 + a % 8)] 5 (0, 0))) ∧ w'.heap[Wa.heap.size]? = some (.cells #[.int .u8 (97 + c % 8)] 5 (0, 0))) ∧ w'.heap[Wac.heap.size]? = some (.cells #[.int .u8 (97 + b % 8)] 5 (0, 0))) => CV.out.2.1 w' Wac.heap.size h.2
          refine wpAnyH_take (i := 9) (oi := ⟨_, _, _, _, _, _⟩) (v := ?v17) rfl (by kernel_rfl) (by kernel_rfl) (by kernel_rfl) (fun _ _ _ h => h) (Or.inl ⟨by rfl, ?hy17⟩) gacb ?rest17
          case hy17 => (intro w hSw; (try dsimp only at hSw); go_simp; try with_reducible rfl)
          simp only [Act.put, List.setIfInBounds_toArray, List.set_cons_zero, List.set_cons_succ]
          clear PC hWacb
          refine wpAnyH_take (i := 16) (oi := ⟨_, _, _, _, _, _⟩) (v := ?v18) rfl (by kernel_rfl) (by kernel_rfl) (by kernel_rfl) (fun _ _ _ h => h) (Or.inl ⟨by rfl, ?hy18⟩) gacb ?rest18
          case hy18 => (intro w hSw; (try dsimp only at hSw); go_simp; try with_reducible rfl)
          simp only [Act.put, List.setIfInBounds_toArray, List.set_cons_zero, List.set_cons_succ]
          refine wpAnyH_take (i := 17) (oi := ⟨_, _, _, _, _, _⟩) (v := ?v19) rfl (by kernel_rfl) (by kernel_rfl) (by kernel_rfl) (fun _ _ _ h => h) (Or.inl ⟨by rfl, ?hy19⟩) gacb ?rest19
          case hy19 => (intro w hSw; (try dsimp only at hSw); go_simp; try with_reducible rfl)
          simp only [Act.put, List.setIfInBounds_toArray, List.set_cons_zero, List.set_cons_succ]
          refine wpAnyH_done (by kernel_rfl) ?_ _
          go_wp2
          go_meet
          exact ⟨rfl, rfl, rfl, gacb.1.1.1⟩
    · obtain ⟨Wb, hWb⟩ : ∃ W, (w2.alloc (.cells #[.int .u8 (97 + b % 8)] 5)).drew = W := ⟨_, rfl⟩
      have hbb : Below w2.heap.size w2 Wb := by rw [← hWb]; exact ((Below.refl _ _).alloc (Nat.le_refl _) _).drew
      have hbn : Wb.heap[w2.heap.size]? = some (.cells #[.int .u8 (97 + b % 8)] 5 (0, 0)) := by rw [← hWb]; exact heap_alloc_new w2 _
      have hb : Below w2.heap.size w2 Wb := hbb
      go_simp
      refine hK.out _ _ hb (fun hHeld => ?_)
      clear hK K hHeld
      try simp only [Act.put, List.setIfInBounds_toArray, List.set_cons_zero, List.set_cons_succ]
      refine wpAnyH_mono (S' := fun w' => (Below w2.heap.size w2 w') ∧ w'.heap[w2.heap.size]? = some (.cells #[.int .u8 (97 + b % 8)] 5 (0, 0))) (fun _ h => h.1) _ _ _ _ ?_
      have gb : (fun w' : World => (Below w2.heap.size w2 w') ∧ w'.heap[w2.heap.size]? = some (.cells #[.int .u8 (97 + b % 8)] 5 (0, 0))) Wb := ⟨hb, hbn⟩
      have PC := fun (w' : World) (h : (Below w2.heap.size w2 w') ∧ w'.heap[w2.heap.size]? = some (.cells #[.int .u8 (97 + b % 8)] 5 (0, 0))) => CV.out.2.1 w' w2.heap.size h.2
      refine wpAnyH_take (i := 9) (oi := ⟨_, _, _, _, _, _⟩) (v := ?v20) rfl (by kernel_rfl) (by kernel_rfl) (by kernel_rfl) (fun _ _ _ h => h) (Or.inl ⟨by rfl, ?hy20⟩) gb ?rest20
      case hy20 => (intro w hSw; (try dsimp only at hSw); go_simp; try with_reducible rfl)
      simp only [Act.put, List.setIfInBounds_toArray, List.set_cons_zero, List.set_cons_succ]
      clear PC hWb
      refine wpAnyH_ready (rs := [3, 13]) (by kernel_rfl) (by simp) ?_
      refine AllReadyH.cons (o := ⟨_, _, _, _, _, _⟩) rfl (fun K hK => ?_) (AllReadyH.cons (o := ⟨_, _, _, _, _, _⟩) rfl (fun K hK => ?_) AllReadyH.nil)
      · obtain ⟨Wba, hWba⟩ : ∃ W, Wb.alloc (.cells #[.int .u8 (97 + a % 8)] 5) = W := ⟨_, rfl⟩
        have hbab : Below Wb.heap.size Wb Wba := by rw [← hWba]; exact (Below.refl _ _).alloc (Nat.le_refl _) _
        have hban : Wba.heap[Wb.heap.size]? = some (.cells #[.int .u8 (97 + a % 8)] 5 (0, 0)) := by rw [← hWba]; exact heap_alloc_new Wb _
        have hba : (Below w2.heap.size w2 Wba) ∧ Wba.heap[w2.heap.size]? = some (.cells #[.int .u8 (97 + b % 8)] 5 (0, 0)) := ⟨Below.trans gb.1 (hbab.mono gb.1.size), (hbab.block _ (lt_of_heap gb.2)).trans gb.2⟩
        go_simp
        refine hK.out _ _ hba (fun hHeld => ?_)
        clear hK K hHeld
        try simp only [Act.put, List.setIfInBounds_toArray, List.set_cons_zero, List.set_cons_succ]
        refine wpAnyH_mono (S' := fun w' => ((Below w2.heap.size w2 w') ∧ w'.heap[w2.heap.size]? = some (.cells #[.int .u8 (97 + b % 8)] 5 (0, 0))) ∧ w'.heap[Wb.heap.size]? = some (.cells #[.int .u8 (97 + a % 8)] 5 (0, 0))) (fun _ h => h.1) _ _ _ _ ?_
        have gba : (fun w' : World => ((Below w2.heap.size w2 w') ∧ w'.heap[w2.heap.size]? = some (.cells #[.int .u8 (97 + b % 8)] 5 (0, 0))) ∧ w'.heap[Wb.heap.size]? = some (.cells #[.int .u8 (97 + a % 8)] 5 (0, 0))) Wba := ⟨hba, hban⟩
        have PC := fun (w' : World) (h : ((Below w2.heap.size w2 w') ∧ w'.heap[w2.heap.size]? = some (.cells #[.int .u8 (97 + b % 8)] 5 (0, 0))) ∧ w'.heap[Wb.heap.size]? = some (.cells #[.int .u8 (97 + a % 8)] 5 (0, 0))) => CV.out.1 w' Wb.heap.size h.2
        refine wpAnyH_take (i := 4) (oi := ⟨_, _, _, _, _, _⟩) (v := ?v21) rfl (by kernel_rfl) (by kernel_rfl) (by kernel_rfl) (fun _ _ _ h => h) (Or.inl ⟨by rfl, ?hy21⟩) gba ?rest21
        case hy21 => (intro w hSw; (try dsimp only at hSw); go_simp; try with_reducible rfl)
        simp only [Act.put, List.setIfInBounds_toArray, List.set_cons_zero, List.set_cons_succ]
        clear PC hWba
        refine wpAnyH_take (i := 15) (oi := ⟨_, _, _, _, _, _⟩) (v := ?v22) rfl (by kernel_rfl) (by kernel_rfl) (by kernel_rfl) (fun _ _ _ h => h) (Or.inl ⟨by rfl, ?hy22⟩) gba ?rest22
        case hy22 => (intro w hSw; (try dsimp only at hSw); go_simp; try with_reducible rfl)
        simp only [Act.put, List.setIfInBounds_toArray, List.set_cons_zero, List.set_cons_succ]
        refine wpAnyH_take (i := 16) (oi := ⟨_, _, _, _, _, _⟩) (v := ?v23) rfl (by kernel_rfl) (by kernel_rfl) (by kernel_rfl) (fun _ _ _ h => h) (Or.inl ⟨by rfl, ?hy23⟩) gba ?rest23
        case hy23 => (intro w hSw; (try dsimp only at hSw); go_simp; try with_reducible rfl)
        simp only [Act.put, List.setIfInBounds_toArray, List.set_cons_zero, List.set_cons_succ]
        refine wpAnyH_ready (rs := [13]) (by kernel_rfl) (by simp) ?_
        refine AllReadyH.cons (o := ⟨_, _, _, _, _, _⟩) rfl (fun K hK => ?_) AllReadyH.nil
        · obtain ⟨Wbac, hWbac⟩ : ∃ W, Wba.alloc (.cells #[.int .u8 (97 + c % 8)] 5) = W := ⟨_, rfl⟩
          have hbacb : Below Wba.heap.size Wba Wbac := by rw [← hWbac]; exact (Below.refl _ _).alloc (Nat.le_refl _) _
          have hbacn : Wbac.heap[Wba.heap.size]? = some (.cells #[.int .u8 (97 + c % 8)] 5 (0, 0)) := by rw [← hWbac]; exact heap_alloc_new Wba _
          have hbac : ((Below w2.heap.size w2 Wbac) ∧ Wbac.heap[w2.heap.size]? = some (.cells #[.int .u8 (97 + b % 8)] 5 (0, 0))) ∧ Wbac.heap[Wb.heap.size]? = some (.cells #[.int .u8 (97 + a % 8)] 5 (0, 0)) := ⟨⟨Below.trans gba.1.1 (hbacb.mono gba.1.1.size), (hbacb.block _ (lt_of_heap gba.1.2)).trans gba.1.2⟩, (hbacb.block _ (lt_of_heap gba.2)).trans gba.2⟩
          go_simp
          refine hK.out _ _ hbac (fun hHeld => ?_)
          clear hK K hHeld
          try simp only [Act.put, List.setIfInBounds_toArray, List.set_cons_zero, List.set_cons_succ]
          refine wpAnyH_mono (S' := fun w' => (((Below w2.heap.size w2 w') ∧ w'.heap[w2.heap.size]? = some (.cells #[.int .u8 (97 + b % 8)] 5 (0, 0))) ∧ w'.heap[Wb.heap.size]? = some (.cells #[.int .u8 (97 + a % 8)] 5 (0, 0))) ∧ w'.heap[Wba.heap.size]? = some (.cells #[.int .u8 (97 + c % 8)] 5 (0, 0))) (fun _ h => h.1) _ _ _ _ ?_
          have gbac : (fun w' : World => (((Below w2.heap.size w2 w') ∧ w'.heap[w2.heap.size]? = some (.cells #[.int .u8 (97 + b % 8)] 5 (0, 0))) ∧ w'.heap[Wb.heap.size]? = some (.cells #[.int .u8 (97 + a % 8)] 5 (0, 0))) ∧ w'.heap[Wba.heap.size]? = some (.cells #[.int .u8 (97 + c % 8)] 5 (0, 0))) Wbac := ⟨hbac, hbacn⟩
          have PC := fun (w' : World) (h : (((Below w2.heap.size w2 w') ∧ w'.heap[w2.heap.size]? = some (.cells #[.int .u8 (97 + b % 8)] 5 (0, 0))) ∧ w'.heap[Wb.heap.size]? = some (.cells #[.int .u8 (97 + a % 8)] 5 (0, 0))) ∧ w'.heap[Wba.heap.size]? = some (.cells #[.int .u8 (97 + c % 8)] 5 (0, 0))) => CV.out.2.2 w' Wba.heap.size h.2
          refine wpAnyH_take (i := 14) (oi := ⟨_, _, _, _, _, _⟩) (v := ?v24) rfl (by kernel_rfl) (by kernel_rfl) (by kernel_rfl) (fun _ _ _ h => h) (Or.inl ⟨by rfl, ?hy24⟩) gbac ?rest24
          case hy24 => (intro w hSw; (try dsimp only at hSw); go_simp; try with_reducible rfl)
          simp only [Act.put, List.setIfInBounds_toArray, List.set_cons_zero, List.set_cons_succ]
          clear PC hWbac
          refine wpAnyH_take (i := 17) (oi := ⟨_, _, _, _, _, _⟩) (v := ?v25) rfl (by kernel_rfl) (by kernel_rfl) (by kernel_rfl) (fun _ _ _ h => h) (Or.inl ⟨by rfl, ?hy25⟩) gbac ?rest25
          case hy25 => (intro w hSw; (try dsimp only at hSw); go_simp; try with_reducible rfl)
          simp only [Act.put, List.setIfInBounds_toArray, List.set_cons_zero, List.set_cons_succ]
          refine wpAnyH_done (by kernel_rfl) ?_ _
          go_wp2
          go_meet
          exact ⟨rfl, rfl, rfl, gbac.1.1.1⟩
      · obtain ⟨Wbc, hWbc⟩ : ∃ W, Wb.alloc (.cells #[.int .u8 (97 + c % 8)] 5) = W := ⟨_, rfl⟩
        have hbcb : Below Wb.heap.size Wb Wbc := by rw [← hWbc]; exact (Below.refl _ _).alloc (Nat.le_refl _) _
        have hbcn : Wbc.heap[Wb.heap.size]? = some (.cells #[.int .u8 (97 + c % 8)] 5 (0, 0)) := by rw [← hWbc]; exact heap_alloc_new Wb _
        have hbc : (Below w2.heap.size w2 Wbc) ∧ Wbc.heap[w2.heap.size]? = some (.cells #[.int .u8 (97 + b % 8)] 5 (0, 0)) := ⟨Below.trans gb.1 (hbcb.mono gb.1.size), (hbcb.block _ (lt_of_heap gb.2)).trans gb.2⟩
        go_simp
        refine hK.out _ _ hbc (fun hHeld => ?_)
        clear hK K hHeld
        try simp only [Act.put, List.setIfInBounds_toArray, List.set_cons_zero, List.set_cons_succ]
        refine wpAnyH_mono (S' := fun w' => ((Below w2.heap.size w2 w') ∧ w'.heap[w2.heap.size]? = some (.cells #[.int .u8 (97 + b % 8)] 5 (0, 0))) ∧ w'.heap[Wb.heap.size]? = some (.cells #[.int .u8 (97 + c % 8)] 5 (0, 0))) (fun _ h => h.1) _ _ _ _ ?_
        have gbc : (fun w' : World => ((Below w2.heap.size w2 w') ∧ w'.heap[w2.heap.size]? = some (.cells #[.int .u8 (97 + b % 8)] 5 (0, 0))) ∧ w'.heap[Wb.heap.size]? = some (.cells #[.int .u8 (97 + c % 8)] 5 (0, 0))) Wbc := ⟨hbc, hbcn⟩
        have PC := fun (w' : World) (h : ((Below w2.heap.size w2 w') ∧ w'.heap[w2.heap.size]? = some (.cells #[.int .u8 (97 + b % 8)] 5 (0, 0))) ∧ w'.heap[Wb.heap.size]? = some (.cells #[.int .u8 (97 + c % 8)] 5 (0, 0))) => CV.out.2.2 w' Wb.heap.size h.2
        refine wpAnyH_take (i := 14) (oi := ⟨_, _, _, _, _, _⟩) (v := ?v26) rfl (by kernel_rfl) (by kernel_rfl) (by kernel_rfl) (fun _ _ _ h => h) (Or.inl ⟨by rfl, ?hy26⟩) gbc ?rest26
        case hy26 => (intro w hSw; (try dsimp only at hSw); go_simp; try with_reducible rfl)
        simp only [Act.put, List.setIfInBounds_toArray, List.set_cons_zero, List.set_cons_succ]
        clear PC hWbc
        refine wpAnyH_ready (rs := [3]) (by kernel_rfl) (by simp) ?_
        refine AllReadyH.cons (o := ⟨_, _, _, _, _, _⟩) rfl (fun K hK => ?_) AllReadyH.nil
        · obtain ⟨Wbca, hWbca⟩ : ∃ W, Wbc.alloc (.cells #[.int .u8 (97 + a % 8)] 5) = W := ⟨_, rfl⟩
          have hbcab : Below Wbc.heap.size Wbc Wbca := by rw [← hWbca]; exact (Below.refl _ _).alloc (Nat.le_refl _) _
          have hbcan : Wbca.heap[Wbc.heap.size]? = some (.cells #[.int .u8 (97 + a % 8)] 5 (0, 0)) := by rw [← hWbca]; exact heap_alloc_new Wbc _
          have hbca : ((Below w2.heap.size w2 Wbca) ∧ Wbca.heap[w2.heap.size]? = some (.cells #[.int .u8 (97 + b % 8)] 5 (0, 0))) ∧ Wbca.heap[Wb.heap.size]? = some (.cells #[.int .u8 (97 + c % 8)] 5 (0, 0)) := ⟨⟨Below.trans gbc.1.1 (hbcab.mono gbc.1.1.size), (hbcab.block _ (lt_of_heap gbc.1.2)).trans gbc.1.2⟩, (hbcab.block _ (lt_of_heap gbc.2)).trans gbc.2⟩
          go_simp
          refine hK.out _ _ hbca (fun hHeld => ?_)
          clear hK K hHeld
          try simp only [Act.put, List.setIfInBounds_toArray, List.set_cons_zero, List.set_cons_succ]
          refine wpAnyH_mono (S' := fun w' => (((Below w2.heap.size w2 w') ∧ w'.heap[w2.heap.size]? = some (.cells #[.int .u8 (97 + b % 8)] 5 (0, 0))) ∧ w'.heap[Wb.heap.size]? = some (.cells #[.int .u8 (97 + c % 8)] 5 (0, 0))) ∧ w'.heap[Wbc.heap.size]? = some (.cells #[.int .u8 (97 + a % 8)] 5 (0, 0))) (fun _ h => h.1) _ _ _ _ ?_
          have gbca : (fun w' : World => (((Below w2.heap.size w2 w') ∧ w'.heap[w2.heap.size]? = some (.cells #[.int .u8 (97 + b % 8)] 5 (0, 0))) ∧ w'.heap[Wb.heap.size]? = some (.cells #[.int .u8 (97 + c % 8)] 5 (0, 0))) ∧ w'.heap[Wbc.heap.size]? = some (.cells #[.int .u8 (97 + a % 8)] 5 (0, 0))) Wbca := ⟨hbca, hbcan⟩
          have PC := fun (w' : World) (h : (((Below w2.heap.size w2 w') ∧ w'.heap[w2.heap.size]? = some (.cells #[.int .u8 (97 + b % 8)] 5 (0, 0))) ∧ w'.heap[Wb.heap.size]? = some (.cells #[.int .u8 (97 + c % 8)] 5 (0, 0))) ∧ w'.heap[Wbc.heap.size]? = some (.cells #[.int .u8 (97 + a % 8)] 5 (0, 0))) => CV.out.1 w' Wbc.heap.size h.2
          refine wpAnyH_take (i := 4) (oi := ⟨_, _, _, _, _, _⟩) (v := ?v27) rfl (by kernel_rfl) (by kernel_rfl) (by kernel_rfl) (fun _ _ _ h => h) (Or.inl ⟨by rfl, ?hy27⟩) gbca ?rest27
          case hy27 => (intro w hSw; (try dsimp only at hSw); go_simp; try with_reducible rfl)
          simp only [Act.put, List.setIfInBounds_toArray, List.set_cons_zero, List.set_cons_succ]
          clear PC hWbca
          refine wpAnyH_take (i := 15) (oi := ⟨_, _, _, _, _, _⟩) (v := ?v28) rfl (by kernel_rfl) (by kernel_rfl) (by kernel_rfl) (fun _ _ _ h => h) (Or.inl ⟨by rfl, ?hy28⟩) gbca ?rest28
          case hy28 => (intro w hSw; (try dsimp only at hSw); go_simp; try with_reducible rfl)
          simp only [Act.put, List.setIfInBounds_toArray, List.set_cons_zero, List.set_cons_succ]
          refine wpAnyH_take (i := 16) (oi := ⟨_, _, _, _, _, _⟩) (v := ?v29) rfl (by kernel_rfl) (by kernel_rfl) (by kernel_rfl) (fun _ _ _ h => h) (Or.inl ⟨by rfl, ?hy29⟩) gbca ?rest29
          case hy29 => (intro w hSw; (try dsimp only at hSw); go_simp; try with_reducible rfl)
          simp only [Act.put, List.setIfInBounds_toArray, List.set_cons_zero, List.set_cons_succ]
          refine wpAnyH_take (i := 17) (oi := ⟨_, _, _, _, _, _⟩) (v := ?v30) rfl (by kernel_rfl) (by kernel_rfl) (by kernel_rfl) (fun _ _ _ h => h) (Or.inl ⟨by rfl, ?hy30⟩) gbca ?rest30
          case hy30 => (intro w hSw; (try dsimp only at hSw); go_simp; try with_reducible rfl)
          simp only [Act.put, List.setIfInBounds_toArray, List.set_cons_zero, List.set_cons_succ]
          refine wpAnyH_done (by kernel_rfl) ?_ _
          go_wp2
          go_meet
          exact ⟨rfl, rfl, rfl, gbca.1.1.1⟩
    · obtain ⟨Wc, hWc⟩ : ∃ W, (w2.alloc (.cells #[.int .u8 (97 + c % 8)] 5)).drew = W := ⟨_, rfl⟩
      have hcb : Below w2.heap.size w2 Wc := by rw [← hWc]; exact ((Below.refl _ _).alloc (Nat.le_refl _) _).drew
      have hcn : Wc.heap[w2.heap.size]? = some (.cells #[.int .u8 (97 + c % 8)] 5 (0, 0)) := by rw [← hWc]; exact heap_alloc_new w2 _
      have hc : Below w2.heap.size w2 Wc := hcb
      go_simp
      refine hK.out _ _ hc (fun hHeld => ?_)
      clear hK K hHeld
      try simp only [Act.put, List.setIfInBounds_toArray, List.set_cons_zero, List.set_cons_succ]
      refine wpAnyH_mono (S' := fun w' => (Below w2.heap.size w2 w') ∧ w'.heap[w2.heap.size]? = some (.cells #[.int .u8 (97 + c % 8)] 5 (0, 0))) (fun _ h => h.1) _ _ _ _ ?_
      have gc : (fun w' : World => (Below w2.heap.size w2 w') ∧ w'.heap[w2.heap.size]? = some (.cells #[.int .u8 (97 + c % 8)] 5 (0, 0))) Wc := ⟨hc, hcn⟩
      have PC := fun (w' : World) (h : (Below w2.heap.size w2 w') ∧ w'.heap[w2.heap.size]? = some (.cells #[.int .u8 (97 + c % 8)] 5 (0, 0))) => CV.out.2.2 w' w2.heap.size h.2
      refine wpAnyH_take (i := 14) (oi := ⟨_, _, _, _, _, _⟩) (v := ?v31) rfl (by kernel_rfl) (by kernel_rfl) (by kernel_rfl) (fun _ _ _ h => h) (Or.inl ⟨by rfl, ?hy31⟩) gc ?rest31
      case hy31 => (intro w hSw; (try dsimp only at hSw); go_simp; try with_reducible rfl)
      simp only [Act.put, List.setIfInBounds_toArray, List.set_cons_zero, List.set_cons_succ]
      clear PC hWc
      refine wpAnyH_ready (rs := [3, 8]) (by kernel_rfl) (by simp) ?_
      refine AllReadyH.cons (o := ⟨_, _, _, _, _, _⟩) rfl (fun K hK => ?_) (AllReadyH.cons (o := ⟨_, _, _, _, _, _⟩) rfl (fun K hK => ?_) AllReadyH.nil)
      · obtain ⟨Wca, hWca⟩ : ∃ W, Wc.alloc (.cells #[.int .u8 (97 + a % 8)] 5) = W := ⟨_, rfl⟩
        have hcab : Below Wc.heap.size Wc Wca := by rw [← hWca]; exact (Below.refl _ _).alloc (Nat.le_refl _) _
        have hcan : Wca.heap[Wc.heap.size]? = some (.cells #[.int .u8 (97 + a % 8)] 5 (0, 0)) := by rw [← hWca]; exact heap_alloc_new Wc _
        have hca : (Below w2.heap.size w2 Wca) ∧ Wca.heap[w2.heap.size]? = some (.cells #[.int .u8 (97 + c % 8)] 5 (0, 0)) := ⟨Below.trans gc.1 (hcab.mono gc.1.size), (hcab.block _ (lt_of_heap gc.2)).trans gc.2⟩
        go_simp
        refine hK.out _ _ hca (fun hHeld => ?_)
        clear hK K hHeld
        try simp only [Act.put, List.setIfInBounds_toArray, List.set_cons_zero, List.set_cons_succ]
        refine wpAnyH_mono (S' := fun w' => ((Below w2.heap.size w2 w') ∧ w'.heap[w2.heap.size]? = some (.cells #[.int .u8 (97 + c % 8)] 5 (0, 0))) ∧ w'.heap[Wc.heap.size]? = some (.cells #[.int .u8 (97 + a % 8)] 5 (0, 0))) (fun _ h => h.1) _ _ _ _ ?_
        have gca : (fun w' : World => ((Below w2.heap.size w2 w') ∧ w'.heap[w2.heap.size]? = some (.cells #[.int .u8 (97 + c % 8)] 5 (0, 0))) ∧ w'.heap[Wc.heap.size]? = some (.cells #[.int .u8 (97 + a % 8)] 5 (0, 0))) Wca := ⟨hca, hcan⟩
        have PC := fun (w' : World) (h : ((Below w2.heap.size w2 w') ∧ w'.heap[w2.heap.size]? = some (.cells #[.int .u8 (97 + c % 8)] 5 (0, 0))) ∧ w'.heap[Wc.heap.size]? = some (.cells #[.int .u8 (97 + a % 8)] 5 (0, 0))) => CV.out.1 w' Wc.heap.size h.2
        refine wpAnyH_take (i := 4) (oi := ⟨_, _, _, _, _, _⟩) (v := ?v32) rfl (by kernel_rfl) (by kernel_rfl) (by kernel_rfl) (fun _ _ _ h => h) (Or.inl ⟨by rfl, ?hy32⟩) gca ?rest32
        case hy32 => (intro w hSw; (try dsimp only at hSw); go_simp; try with_reducible rfl)
        simp only [Act.put, List.setIfInBounds_toArray, List.set_cons_zero, List.set_cons_succ]
        clear PC hWca
        refine wpAnyH_take (i := 15) (oi := ⟨_, _, _, _, _, _⟩) (v := ?v33) rfl (by kernel_rfl) (by kernel_rfl) (by kernel_rfl) (fun _ _ _ h => h) (Or.inl ⟨by rfl, ?hy33⟩) gca ?rest33
        case hy33 => (intro w hSw; (try dsimp only at hSw); go_simp; try with_reducible rfl)
        simp only [Act.put, List.setIfInBounds_toArray, List.set_cons_zero, List.set_cons_succ]
        refine wpAnyH_ready (rs := [8]) (by kernel_rfl) (by simp) ?_
        refine AllReadyH.cons (o := ⟨_, _, _, _, _, _⟩) rfl (fun K hK => ?_) AllReadyH.nil
        · obtain ⟨Wcab, hWcab⟩ : ∃ W, Wca.alloc (.cells #[.int .u8 (97 + b % 8)] 5) = W := ⟨_, rfl⟩
          have hcabb : Below Wca.heap.size Wca Wcab := by rw [← hWcab]; exact (Below.refl _ _).alloc (Nat.le_refl _) _
          have hcabn : Wcab.heap[Wca.heap.size]? = some (.cells #[.int .u8 (97 + b % 8)] 5 (0, 0)) := by rw [← hWcab]; exact heap_alloc_new Wca _
          have hcab : ((Below w2.heap.size w2 Wcab) ∧ Wcab.heap[w2.heap.size]? = some (.cells #[.int .u8 (97 + c % 8)] 5 (0, 0))) ∧ Wcab.heap[Wc.heap.size]? = some (.cells #[.int .u8 (97 + a % 8)] 5 (0, 0)) := ⟨⟨Below.trans gca.1.1 (hcabb.mono gca.1.1.size), (hcabb.block _ (lt_of_heap gca.1.2)).trans gca.1.2⟩, (hcabb.block _ (lt_of_heap gca.2)).trans gca.2⟩
          go_simp
          refine hK.out _ _ hcab (fun hHeld => ?_)
          clear hK K hHeld
          try simp only [Act.put, List.setIfInBounds_toArray, List.set_cons_zero, List.set_cons_succ]
          refine wpAnyH_mono (S' := fun w' => (((Below w2.heap.size w2 w') ∧ w'.heap[w2.heap.size]? = some (.cells #[.int .u8 (97 + c % 8)] 5 (0, 0))) ∧ w'.heap[Wc.heap.size]? = some (.cells #[.int .u8 (97 + a % 8)] 5 (0, 0))) ∧ w'.heap[Wca.heap.size]? = some (.cells #[.int .u8 (97 + b % 8)] 5 (0, 0))) (fun _ h => h.1) _ _ _ _ ?_
          have gcab : (fun w' : World => (((Below w2.heap.size w2 w') ∧ w'.heap[w2.heap.size]? = some (.cells #[.int .u8 (97 + c % 8)] 5 (0, 0))) ∧ w'.heap[Wc.heap.size]? = some (.cells #[.int .u8 (97 + a % 8)] 5 (0, 0))) ∧ w'.heap[Wca.heap.size]? = some (.cells #[.int .u8 (97 + b % 8)] 5 (0, 0))) Wcab := ⟨hcab, hcabn⟩
          have PC := fun (w' : World) (h : (((Below w2.heap.size w2 w') ∧ w'.heap[w2.heap.size]? = some (.cells #[.int .u8 (97 + c % 8)] 5 (0, 0))) ∧ w'.heap[Wc.heap.size]? = some (.cells #[.int .u8 (97 + a % 8)] 5 (0, 0))) ∧ w'.heap[Wca.heap.size]? = some (.cells #[.int .u8 (97 + b % 8)] 5 (0, 0))) => CV.out.2.1 w' Wca.heap.size h.2
          refine wpAnyH_take (i := 9) (oi := ⟨_, _, _, _, _, _⟩) (v := ?v34) rfl (by kernel_rfl) (by kernel_rfl) (by kernel_rfl) (fun _ _ _ h => h) (Or.inl ⟨by rfl, ?hy34⟩) gcab ?rest34
          case hy34 => (intro w hSw; (try dsimp only at hSw); go_simp; try with_reducible rfl)
          simp only [Act.put, List.setIfInBounds_toArray, List.set_cons_zero, List.set_cons_succ]
          clear PC hWcab
          refine wpAnyH_take (i := 16) (oi := ⟨_, _, _, _, _, _⟩) (v := ?v35) rfl (by kernel_rfl) (by kernel_rfl) (by kernel_rfl) (fun _ _ _ h => h) (Or.inl ⟨by rfl, ?hy35⟩) gcab ?rest35
          case hy35 => (intro w hSw; (try dsimp only at hSw); go_simp; try with_reducible rfl)
          simp only [Act.put, List.setIfInBounds_toArray, List.set_cons_zero, List.set_cons_succ]
          refine wpAnyH_take (i := 17) (oi := ⟨_, _, _, _, _, _⟩) (v := ?v36) rfl (by kernel_rfl) (by kernel_rfl) (by kernel_rfl) (fun _ _ _ h => h) (Or.inl ⟨by rfl, ?hy36⟩) gcab ?rest36
          case hy36 => (intro w hSw; (try dsimp only at hSw); go_simp; try with_reducible rfl)
          simp only [Act.put, List.setIfInBounds_toArray, List.set_cons_zero, List.set_cons_succ]
          refine wpAnyH_done (by kernel_rfl) ?_ _
          go_wp2
          go_meet
          exact ⟨rfl, rfl, rfl, gcab.1.1.1⟩
      · obtain ⟨Wcb, hWcb⟩ : ∃ W, Wc.alloc (.cells #[.int .u8 (97 + b % 8)] 5) = W := ⟨_, rfl⟩
        have hcbb : Below Wc.heap.size Wc Wcb := by rw [← hWcb]; exact (Below.refl _ _).alloc (Nat.le_refl _) _
        have hcbn : Wcb.heap[Wc.heap.size]? = some (.cells #[.int .u8 (97 + b % 8)] 5 (0, 0)) := by rw [← hWcb]; exact heap_alloc_new Wc _
        have hcb : (Below w2.heap.size w2 Wcb) ∧ Wcb.heap[w2.heap.size]? = some (.cells #[.int .u8 (97 + c % 8)] 5 (0, 0)) := ⟨Below.trans gc.1 (hcbb.mono gc.1.size), (hcbb.block _ (lt_of_heap gc.2)).trans gc.2⟩
        go_simp
        refine hK.out _ _ hcb (fun hHeld => ?_)
        clear hK K hHeld
        try simp only [Act.put, List.setIfInBounds_toArray, List.set_cons_zero, List.set_cons_succ]
        refine wpAnyH_mono (S' := fun w' => ((Below w2.heap.size w2 w') ∧ w'.heap[w2.heap.size]? = some (.cells #[.int .u8 (97 + c % 8)] 5 (0, 0))) ∧ w'.heap[Wc.heap.size]? = some (.cells #[.int .u8 (97 + b % 8)] 5 (0, 0))) (fun _ h => h.1) _ _ _ _ ?_
        have gcb : (fun w' : World => ((Below w2.heap.size w2 w') ∧ w'.heap[w2.heap.size]? = some (.cells #[.int .u8 (97 + c % 8)] 5 (0, 0))) ∧ w'.heap[Wc.heap.size]? = some (.cells #[.int .u8 (97 + b % 8)] 5 (0, 0))) Wcb := ⟨hcb, hcbn⟩
        have PC := fun (w' : World) (h : ((Below w2.heap.size w2 w') ∧ w'.heap[w2.heap.size]? = some (.cells #[.int .u8 (97 + c % 8)] 5 (0, 0))) ∧ w'.heap[Wc.heap.size]? = some (.cells #[.int .u8 (97 + b % 8)] 5 (0, 0))) => CV.out.2.1 w' Wc.heap.size h.2
        refine wpAnyH_take (i := 9) (oi := ⟨_, _, _, _, _, _⟩) (v := ?v37) rfl (by kernel_rfl) (by kernel_rfl) (by kernel_rfl) (fun _ _ _ h => h) (Or.inl ⟨by rfl, ?hy37⟩) gcb ?rest37
        case hy37 => (intro w hSw; (try dsimp only at hSw); go_simp; try with_reducible rfl)
        simp only [Act.put, List.setIfInBounds_toArray, List.set_cons_zero, List.set_cons_succ]
        clear PC hWcb
        refine wpAnyH_ready (rs := [3]) (by kernel_rfl) (by simp) ?_
        refine AllReadyH.cons (o := ⟨_, _, _, _, _, _⟩) rfl (fun K hK => ?_) AllReadyH.nil
        · obtain ⟨Wcba, hWcba⟩ : ∃ W, Wcb.alloc (.cells #[.int .u8 (97 + a % 8)] 5) = W := ⟨_, rfl⟩
          have hcbab : Below Wcb.heap.size Wcb Wcba := by rw [← hWcba]; exact (Below.refl _ _).alloc (Nat.le_refl _) _
          have hcban : Wcba.heap[Wcb.heap.size]? = some (.cells #[.int .u8 (97 + a % 8)] 5 (0, 0)) := by rw [← hWcba]; exact heap_alloc_new Wcb _
          have hcba : ((Below w2.heap.size w2 Wcba) ∧ Wcba.heap[w2.heap.size]? = some (.cells #[.int .u8 (97 + c % 8)] 5 (0, 0))) ∧ Wcba.heap[Wc.heap.size]? = some (.cells #[.int .u8 (97 + b % 8)] 5 (0, 0)) := ⟨⟨Below.trans gcb.1.1 (hcbab.mono gcb.1.1.size), (hcbab.block _ (lt_of_heap gcb.1.2)).trans gcb.1.2⟩, (hcbab.block _ (lt_of_heap gcb.2)).trans gcb.2⟩
          go_simp
          refine hK.out _ _ hcba (fun hHeld => ?_)
          clear hK K hHeld
          try simp only [Act.put, List.setIfInBounds_toArray, List.set_cons_zero, List.set_cons_succ]
          refine wpAnyH_mono (S' := fun w' => (((Below w2.heap.size w2 w') ∧ w'.heap[w2.heap.size]? = some (.cells #[.int .u8 (97 + c % 8)] 5 (0, 0))) ∧ w'.heap[Wc.heap.size]? = some (.cells #[.int .u8 (97 + b % 8)] 5 (0, 0))) ∧ w'.heap[Wcb.heap.size]? = some (.cells #[.int .u8 (97 + a % 8)] 5 (0, 0))) (fun _ h => h.1) _ _ _ _ ?_
          have gcba : (fun w' : World => (((Below w2.heap.size w2 w') ∧ w'.heap[w2.heap.size]? = some (.cells #[.int .u8 (97 + c % 8)] 5 (0, 0))) ∧ w'.heap[Wc.heap.size]? = some (.cells #[.int .u8 (97 + b % 8)] 5 (0, 0))) ∧ w'.heap[Wcb.heap.size]? = some (.cells #[.int .u8 (97 + a % 8)] 5 (0, 0))) Wcba := ⟨hcba, hcban⟩
          have PC := fun (w' : World) (h : (((Below w2.heap.size w2 w') ∧ w'.heap[w2.heap.size]? = some (.cells #[.int .u8 (97 + c % 8)] 5 (0, 0))) ∧ w'.heap[Wc.heap.size]? = some (.cells #[.int .u8 (97 + b % 8)] 5 (0, 0))) ∧ w'.heap[Wcb.heap.size]? = some (.cells #[.int .u8 (97 + a % 8)] 5 (0, 0))) => CV.out.1 w' Wcb.heap.size h.2
          refine wpAnyH_take (i := 4) (oi := ⟨_, _, _, _, _, _⟩) (v := ?v38) rfl (by kernel_rfl) (by kernel_rfl) (by kernel_rfl) (fun _ _ _ h => h) (Or.inl ⟨by rfl, ?hy38⟩) gcba ?rest38
          case hy38 => (intro w hSw; (try dsimp only at hSw); go_simp; try with_reducible rfl)
          simp only [Act.put, List.setIfInBounds_toArray, List.set_cons_zero, List.set_cons_succ]
          clear PC hWcba
          refine wpAnyH_take (i := 15) (oi := ⟨_, _, _, _, _, _⟩) (v := ?v39) rfl (by kernel_rfl) (by kernel_rfl) (by kernel_rfl) (fun _ _ _ h => h) (Or.inl ⟨by rfl, ?hy39⟩) gcba ?rest39
          case hy39 => (intro w hSw; (try dsimp only at hSw); go_simp; try with_reducible rfl)
          simp only [Act.put, List.setIfInBounds_toArray, List.set_cons_zero, List.set_cons_succ]
          refine wpAnyH_take (i := 16) (oi := ⟨_, _, _, _, _, _⟩) (v := ?v40) rfl (by kernel_rfl) (by kernel_rfl) (by kernel_rfl) (fun _ _ _ h => h) (Or.inl ⟨by rfl, ?hy40⟩) gcba ?rest40
          case hy40 => (intro w hSw; (try dsimp only at hSw); go_simp; try with_reducible rfl)
          simp only [Act.put, List.setIfInBounds_toArray, List.set_cons_zero, List.set_cons_succ]
          refine wpAnyH_take (i := 17) (oi := ⟨_, _, _, _, _, _⟩) (v := ?v41) rfl (by kernel_rfl) (by kernel_rfl) (by kernel_rfl) (fun _ _ _ h => h) (Or.inl ⟨by rfl, ?hy41⟩) gcba ?rest41
          case hy41 => (intro w hSw; (try dsimp only at hSw); go_simp; try with_reducible rfl)
          simp only [Act.put, List.setIfInBounds_toArray, List.set_cons_zero, List.set_cons_succ]
          refine wpAnyH_done (by kernel_rfl) ?_ _
          go_wp2
          go_meet
          exact ⟨rfl, rfl, rfl, gcba.1.1.1⟩
  case rest =>
    obtain ⟨rfl, rfl, rfl, A⟩ := hcut
    have HC : Hid (Below w2.heap.size w2 wc) := A.out
    have hg1 := gtrN sa sb
    have hg2 := gtrN sb sc
    clear A HR
    by_cases h1 : 0 < cmpT sa sb
    · rw [decide_eq_true h1] at hg1
      have HF := (show Hid _ from HB.out.2.2.2.trans (HC.out.mono HB.out.2.2.2.size))
      clear hg2 h1
      go_wp2
      go_ret
      exact ⟨rfl, HF.out⟩
    · rw [decide_eq_false h1] at hg1
      by_cases h2 : 0 < cmpT sb sc
      · rw [decide_eq_true h2] at hg2
        have HF := (show Hid _ from HB.out.2.2.2.trans (HC.out.mono HB.out.2.2.2.size))
        clear h1 h2
        go_wp2
        go_ret
        exact ⟨rfl, HF.out⟩
      · rw [decide_eq_false h2] at hg2
        have HO := (show Hid _ from And.intro h1 h2)
        clear h1 h2
        go_wp2_with fail
        refine (WNew_any wc T sa sb false).mono ?_
        rintro e w5 ⟨X, rfl, hk5, hX, hb5⟩
        have hXl := lt_of_heap hk5
        have hs2 := HC.out.size
        have K5 : Hid (Wk w5 X T sa sb false none ∧ Below w2.heap.size w2 w5) := ⟨hk5, HC.out.trans (hb5.mono HC.out.size)⟩
        clear hk5 hb5 HC
        go_wp2_with fail
        refine (WNew_any w5 T sb sc false).mono ?_
        rintro e w6 ⟨Y, rfl, hk6, hY, hb6⟩
        have hYl := lt_of_heap hk6
        have K6 : Hid (Wk w6 X T sa sb false none ∧ Wk w6 Y T sb sc false none ∧ Below w2.heap.size w2 w6) := ⟨Wk.below K5.out.1 hb6, hk6, K5.out.2.trans (hb6.mono K5.out.2.size)⟩
        clear hk6 hb6 K5
        go_wp2_with fail
        refine (WNew_any w6 T sa sc false).mono ?_
        rintro e w7 ⟨Z, rfl, hk7, hZ, hb7⟩
        have hZl := lt_of_heap hk7
        obtain ⟨W8, hW8⟩ : ∃ W8, w7.alloc (.cells #[.pointer (some ⟨X, 0, none⟩), .pointer (some ⟨Y, 0, none⟩)] 31) = W8 := ⟨_, rfl⟩
        have hb8 : Below w7.heap.size w7 W8 := by rw [← hW8]; exact (Below.refl _ _).alloc (Nat.le_refl _) _
        have hs8 : W8.heap.size = w7.heap.size + 1 := by rw [← hW8]; simp
        have hb78 := hb7.trans (hb8.mono hb7.size)
        have K8 : Hid (Wk W8 X T sa sb false none ∧ Wk W8 Y T sb sc false none ∧ Wk W8 Z T sa sc false none ∧ W8.heap[w7.heap.size]? = some (.cells #[.pointer (some ⟨X, 0, none⟩), .pointer (some ⟨Y, 0, none⟩)] 31 (0, 0)) ∧ Below w2.heap.size w2 W8) := ⟨Wk.below K6.out.1 hb78, Wk.below K6.out.2.1 hb78, Wk.below hk7 hb8, by rw [← hW8]; exact heap_alloc_new _ _, K6.out.2.2.trans (hb78.mono K6.out.2.2.size)⟩
        clear hk7 hb7 hb8 hb78 K6
        obtain ⟨J1, hJ1⟩ : ∃ J, partE l sa sb false = J := ⟨_, rfl⟩
        obtain ⟨J2, hJ2⟩ : ∃ J, partE l sb sc false = J := ⟨_, rfl⟩
        obtain ⟨J3, hJ3⟩ : ∃ J, partE l sa sc false = J := ⟨_, rfl⟩
        have hsl : SortE l := Both.sort HB.out.1
        have HP : Hid (J1.length ≤ 60 ∧ J2.length ≤ 60 ∧ J3.length ≤ 60 ∧ (∀ j, nextE l sa sb false (markE J1 j) = J1[j]?) ∧ (∀ j, nextE l sb sc false (markE J2 j) = J2[j]?) ∧ (∀ j, nextE l sa sc false (markE J3 j) = J3[j]?) ∧ J1 ++ J2 = J3) := by
          refine ⟨?_, ?_, ?_, fun j => ?_, fun j => ?_, fun j => ?_, ?_⟩
          · rw [← hJ1]; exact Nat.le_trans (len_part _ _ _ _) HB.out.2.1
          · rw [← hJ2]; exact Nat.le_trans (len_part _ _ _ _) HB.out.2.1
          · rw [← hJ3]; exact Nat.le_trans (len_part _ _ _ _) HB.out.2.1
          · rw [← hJ1]; exact next_mark hsl sa sb false j
          · rw [← hJ2]; exact next_mark hsl sb sc false j
          · rw [← hJ3]; exact next_mark hsl sa sc false j
          · rw [← hJ1, ← hJ2, ← hJ3]
            obtain ⟨q1, q2⟩ := HO.out
            obtain ⟨q3, q4, q5⟩ := HS.out
            exact part_parts hsl (by have := good_cmpT.anti sa sb; omega) (by have := good_cmpT.anti sb sc; omega) (by rw [q4]; exact keyN_ne b) (by rw [q5]; exact keyN_ne c)
        clear hJ1 hJ2 hJ3 hsl HO HS hg1 hg2
        go_wp2_with fail
        go_loopg [17, 20, 21, 22, 88] 2 (fun gg sv _ _ _ iv wq => ∃ (k : Nat), k ≤ 2 ∧ 2 - k ≤ gg ∧ iv = .int .i64 k ∧ Aside ((k = 0 → Wk wq X T sa sb false none) ∧ (k ≤ 1 → Wk wq Y T sb sc false none) ∧ Wk wq Z T sa sc false none ∧ wq.heap[w7.heap.size]? = some (.cells #[.pointer (some ⟨X, 0, none⟩), .pointer (some ⟨Y, 0, none⟩)] 31 (0, 0)) ∧ OwE w2 W8.heap.size sv (if k = 0 then [] else if k = 1 then J1 else J1 ++ J2) wq ∧ W8.heap.size ≤ wq.heap.size))
        case atStart => exact ⟨0, Nat.zero_le _, by omega, rfl, fun _ => K8.out.1, fun _ => K8.out.2.1, K8.out.2.2.1, K8.out.2.2.2.1, OwE.nil K8.out.2.2.2.2 K8.out.2.2.2.2.size, Nat.le_refl _⟩
        case round =>
          obtain ⟨k, hkN, hgg0, rfl, HR⟩ := hrel
          have HQ := (show Hid _ from HR.out)
          clear HR K8
          by_cases hk0 : k = 0
          · subst hk0
            obtain ⟨g1, g2, g3, g4, g5, g6⟩ := HQ.out
            have c0 : wr.cell? ⟨w7.heap.size, 0, none⟩ = some (.pointer (some ⟨X, 0, none⟩)) := by simp [World.cell?, g4]
            have L0 : Hid (Wk wr X T sa sb false none ∧ Wk wr Y T sb sc false none ∧ Wk wr Z T sa sc false none ∧ wr.heap[w7.heap.size]? = some (.cells #[.pointer (some ⟨X, 0, none⟩), .pointer (some ⟨Y, 0, none⟩)] 31 (0, 0)) ∧ OwE w2 W8.heap.size u17 ([] ++ J1.take 0) wr ∧ W8.heap.size ≤ wr.heap.size) := ⟨g1 rfl, g2 (by omega), g3, g4, by exact g5, g6⟩
            obtain ⟨wo, rfl⟩ : ∃ wo, wo = wr := ⟨_, rfl⟩
            clear g1 g2 g3 g4 g5 g6 HQ
            go_wp2_with fail
            go_loopg [17, 21, 22, 92] 70 (fun gg sv _ _ iv wq => ∃ (j : Nat), j ≤ 70 ∧ 70 - j ≤ gg ∧ iv = .int .i64 j ∧ Aside (Wk wq X T sa sb false (markE J1 j) ∧ Wk wq Y T sb sc false none ∧ Wk wq Z T sa sc false none ∧ wq.heap[w7.heap.size]? = some (.cells #[.pointer (some ⟨X, 0, none⟩), .pointer (some ⟨Y, 0, none⟩)] 31 (0, 0)) ∧ OwE w2 W8.heap.size sv ([] ++ J1.take j) wq ∧ W8.heap.size ≤ wq.heap.size))
            case atStart => exact ⟨0, Nat.zero_le _, by omega, rfl, by rw [mark_zero]; exact L0.out.1, L0.out.2.1, L0.out.2.2.1, L0.out.2.2.2.1, L0.out.2.2.2.2.1, L0.out.2.2.2.2.2⟩
            case round =>
              obtain ⟨j, hjN, hgg, rfl, HR⟩ := hrel
              have HQ := (show Hid _ from HR.out)
              clear HR L0
              by_cases hj : j < 70
              · have zj : (j : Int) < 70 := by omega
                obtain ⟨F, ht⟩ := Both.tree HB.out.1
                have hsz : W8.heap.size ≤ wr.heap.size := by
                  obtain ⟨i0, o0, o1, o2, ir, is⟩ := HQ.out
                  exact is
                have hn1 := WNext_on ht HB.out.2.2.1 (by
                  obtain ⟨i0, o0, o1, o2, ir, is⟩ := HQ.out
                  exact ir.below) (show w2.heap.size ≤ X by omega) HQ.out.1
                rw [HP.out.2.2.2.1, mark_step] at hn1
                have HN1 := (show Hid _ from hn1)
                clear ht hn1
                by_cases hjJ : j < J1.length
                · obtain ⟨⟨xk, xi⟩, hx⟩ : ∃ x, J1[j]? = some x := ⟨_, List.getElem?_eq_getElem hjJ⟩
                  have HN1' : Hid (Calls Try.prog 17 #[.pointer (some ⟨X, 0, none⟩)] wr fun r w' => r = .returned (.tuple #[.agg #[.string xk, .int .i64 xi], .bool true]) ∧ Wk w' X T sa sb false (markE J1 (j + 1)) ∧ Below w2.heap.size w2 w' ∧ Far (fun a => a = X) wr w') := by have h := HN1.out; rw [hx] at h; exact h
                  have HXY := (show Hid _ from take_snoc hx)
                  clear HN1 hx hjJ
                  go_wp2_with fail
                  refine Calls.mono HN1'.out ?_
                  rintro e w9 ⟨rfl, hk9, hb9, hf9⟩
                  obtain ⟨WA, hWA, hbA, hsA, rA⟩ := boxE_any w9 xk xi
                  have hs9 := hf9.size
                  have Q7 : Hid (Wk WA X T sa sb false (markE J1 (j + 1)) ∧ Wk WA Y T sb sc false none ∧ Wk WA Z T sa sc false none ∧ WA.heap[w7.heap.size]? = some (.cells #[.pointer (some ⟨X, 0, none⟩), .pointer (some ⟨Y, 0, none⟩)] 31 (0, 0)) ∧ OwE w2 W8.heap.size u17 ([] ++ J1.take j) WA ∧ W8.heap.size ≤ WA.heap.size) := by
                    obtain ⟨i0, o0, o1, o2, ir, is⟩ := HQ.out
                    exact ⟨Wk.below hk9 hbA, Wk.below (Wk.far o0 hf9 (by omega)) hbA, Wk.below (Wk.far o1 hf9 (by omega)) hbA, (hbA.block _ (show w7.heap.size < w9.heap.size by omega)).trans ((hf9.block _ (show w7.heap.size < wr.heap.size by omega) (show w7.heap.size ≠ X by omega)).trans o2), (ir.far hf9 (by omega) (by omega)).same hbA, by omega⟩
                  obtain ⟨x0, x1, xf, xl⟩ := row2_of rA
                  have hwA : W8.heap.size ≤ WA.heap.size := by omega
                  have HIR : Hid (OwE w2 W8.heap.size u17 ([] ++ J1.take j) WA) := by
                    obtain ⟨i0, o0, o1, o2, ir, is⟩ := Q7.out
                    exact ir
                  clear hk9 hb9 hf9 hbA rA HN1' HQ
                  go_wp2_with (first | (at_builtin; refine append_en2 rfl (.tmp 100) (.tmp 102) rfl HIR.out hwA (xk, xi) rfl _ rfl hsA (by rw [List.length_append, List.length_take]; have := HP.out.1; have := HP.out.2.1; have := HP.out.2.2.1; (try simp only [List.length_nil]); omega) ?_; intro s1 u1 h1 hz1 hk1 ho1; have H1 := (show Hid _ from And.intro h1 hk1); clear h1 hk1 ho1))
                  have Q8 : Hid (Wk u1 X T sa sb false (markE J1 (j + 1)) ∧ Wk u1 Y T sb sc false none ∧ Wk u1 Z T sa sc false none ∧ u1.heap[w7.heap.size]? = some (.cells #[.pointer (some ⟨X, 0, none⟩), .pointer (some ⟨Y, 0, none⟩)] 31 (0, 0)) ∧ OwE w2 W8.heap.size s1 ([] ++ J1.take (j + 1)) u1 ∧ W8.heap.size ≤ u1.heap.size) := by
                    obtain ⟨i0, o0, o1, o2, ir, is⟩ := Q7.out
                    obtain ⟨h1, hk1⟩ := H1.out
                    refine ⟨(hk1 X (by omega) (ir.ne (.inl (by omega)))).trans i0, (hk1 Y (by omega) (ir.ne (.inl (by omega)))).trans o0, (hk1 Z (by omega) (ir.ne (.inl (by omega)))).trans o1, (hk1 w7.heap.size (by omega) (ir.ne (.inl (by omega)))).trans o2, ?_, by omega⟩
                    rw [HXY.out, ← List.append_assoc]; exact h1
                  clear Q7 H1 HIR x0 x1 xf xl
                  go_roundg (70 - (j + 1))
                  case measure => omega
                  case rel => exact ⟨j + 1, by omega, by omega, by simp, Q8.out⟩
                · have hx : J1[j]? = none := List.getElem?_eq_none (by omega)
                  have HN1' : Hid (Calls Try.prog 17 #[.pointer (some ⟨X, 0, none⟩)] wr fun r w' => r = .returned (.tuple #[.agg #[.string ⟨#[]⟩, .int .i64 0], .bool false]) ∧ Wk w' X T sa sb false (markE J1 (j + 1)) ∧ Below w2.heap.size w2 w' ∧ Far (fun a => a = X) wr w') := by have h := HN1.out; rw [hx] at h; exact h
                  have HXY : Hid (J1.take (j + 1) = J1.take j) := by
                    show J1.take (j + 1) = J1.take j
                    rw [List.take_add_one, hx]; simp
                  clear HN1 hx hjJ
                  go_wp2_with fail
                  refine Calls.mono HN1'.out ?_
                  rintro e w9 ⟨rfl, hk9, hb9, hf9⟩
                  have hbA : Below w9.heap.size w9 (w9.alloc (.cells #[.string ⟨#[]⟩, .int .i64 0] 34)) := (Below.refl _ _).alloc (Nat.le_refl _) _
                  have hs9 := hf9.size
                  have hs9A := hbA.size
                  have Q7 : Hid (Wk (w9.alloc (.cells #[.string ⟨#[]⟩, .int .i64 0] 34)) X T sa sb false (markE J1 (j + 1)) ∧ Wk (w9.alloc (.cells #[.string ⟨#[]⟩, .int .i64 0] 34)) Y T sb sc false none ∧ Wk (w9.alloc (.cells #[.string ⟨#[]⟩, .int .i64 0] 34)) Z T sa sc false none ∧ (w9.alloc (.cells #[.string ⟨#[]⟩, .int .i64 0] 34)).heap[w7.heap.size]? = some (.cells #[.pointer (some ⟨X, 0, none⟩), .pointer (some ⟨Y, 0, none⟩)] 31 (0, 0)) ∧ OwE w2 W8.heap.size u17 ([] ++ J1.take (j + 1)) (w9.alloc (.cells #[.string ⟨#[]⟩, .int .i64 0] 34)) ∧ W8.heap.size ≤ (w9.alloc (.cells #[.string ⟨#[]⟩, .int .i64 0] 34)).heap.size) := by
                    obtain ⟨i0, o0, o1, o2, ir, is⟩ := HQ.out
                    rw [HXY.out]
                    exact ⟨Wk.below hk9 hbA, Wk.below (Wk.far o0 hf9 (by omega)) hbA, Wk.below (Wk.far o1 hf9 (by omega)) hbA, (hbA.block _ (show w7.heap.size < w9.heap.size by omega)).trans ((hf9.block _ (show w7.heap.size < wr.heap.size by omega) (show w7.heap.size ≠ X by omega)).trans o2), (ir.far hf9 (by omega) (by omega)).same hbA, by omega⟩
                  clear hk9 hb9 hf9 hbA hs9A HN1' HQ
                  go_wp2
                  go_roundg (70 - (j + 1))
                  case measure => omega
                  case rel => exact ⟨j + 1, by omega, by omega, by simp, Q7.out⟩
              · obtain rfl : j = 70 := by omega
                have hfin : [] ++ J1.take 70 = J1 := by rw [List.take_of_length_le (by have := HP.out.1; omega)]; rfl
                have QF : Hid (((1 : Nat) = 0 → Wk wr X T sa sb false none) ∧ ((1 : Nat) ≤ 1 → Wk wr Y T sb sc false none) ∧ Wk wr Z T sa sc false none ∧ wr.heap[w7.heap.size]? = some (.cells #[.pointer (some ⟨X, 0, none⟩), .pointer (some ⟨Y, 0, none⟩)] 31 (0, 0)) ∧ OwE w2 W8.heap.size u17 (if (1 : Nat) = 0 then [] else if (1 : Nat) = 1 then J1 else J1 ++ J2) wr ∧ W8.heap.size ≤ wr.heap.size) := by
                  obtain ⟨i0, o0, o1, o2, ir, is⟩ := HQ.out
                  rw [hfin] at ir
                  exact ⟨fun h => absurd h (by decide), fun h => o0, o1, o2, ir, is⟩
                clear HQ hfin hgg hj hjN
                go_wp2
                go_roundg (2 - (0 + 1))
                case measure => omega
                case rel => exact ⟨1, by omega, by omega, by simp, QF.out⟩
          · by_cases hk1 : k = 1
            · subst hk1
              obtain ⟨g1, g2, g3, g4, g5, g6⟩ := HQ.out
              have c0 : wr.cell? ⟨w7.heap.size, 1, none⟩ = some (.pointer (some ⟨Y, 0, none⟩)) := by simp [World.cell?, g4]
              have L0 : Hid (Wk wr Y T sb sc false none ∧ Wk wr Z T sa sc false none ∧ wr.heap[w7.heap.size]? = some (.cells #[.pointer (some ⟨X, 0, none⟩), .pointer (some ⟨Y, 0, none⟩)] 31 (0, 0)) ∧ OwE w2 W8.heap.size u17 (J1 ++ J2.take 0) wr ∧ W8.heap.size ≤ wr.heap.size) := ⟨g2 (by omega), g3, g4, by rw [List.take_zero, List.append_nil]; exact g5, g6⟩
              obtain ⟨wo, rfl⟩ : ∃ wo, wo = wr := ⟨_, rfl⟩
              clear g1 g2 g3 g4 g5 g6 HQ
              go_wp2_with fail
              go_loopg [17, 21, 22, 92] 70 (fun gg sv _ _ iv wq => ∃ (j : Nat), j ≤ 70 ∧ 70 - j ≤ gg ∧ iv = .int .i64 j ∧ Aside (Wk wq Y T sb sc false (markE J2 j) ∧ Wk wq Z T sa sc false none ∧ wq.heap[w7.heap.size]? = some (.cells #[.pointer (some ⟨X, 0, none⟩), .pointer (some ⟨Y, 0, none⟩)] 31 (0, 0)) ∧ OwE w2 W8.heap.size sv (J1 ++ J2.take j) wq ∧ W8.heap.size ≤ wq.heap.size))
              case atStart => exact ⟨0, Nat.zero_le _, by omega, rfl, by rw [mark_zero]; exact L0.out.1, L0.out.2.1, L0.out.2.2.1, L0.out.2.2.2.1, L0.out.2.2.2.2⟩
              case round =>
                obtain ⟨j, hjN, hgg, rfl, HR⟩ := hrel
                have HQ := (show Hid _ from HR.out)
                clear HR L0
                by_cases hj : j < 70
                · have zj : (j : Int) < 70 := by omega
                  obtain ⟨F, ht⟩ := Both.tree HB.out.1
                  have hsz : W8.heap.size ≤ wr.heap.size := by
                    obtain ⟨i0, o0, o1, ir, is⟩ := HQ.out
                    exact is
                  have hn1 := WNext_on ht HB.out.2.2.1 (by
                    obtain ⟨i0, o0, o1, ir, is⟩ := HQ.out
                    exact ir.below) (show w2.heap.size ≤ Y by omega) HQ.out.1
                  rw [HP.out.2.2.2.2.1, mark_step] at hn1
                  have HN1 := (show Hid _ from hn1)
                  clear ht hn1
                  by_cases hjJ : j < J2.length
                  · obtain ⟨⟨xk, xi⟩, hx⟩ : ∃ x, J2[j]? = some x := ⟨_, List.getElem?_eq_getElem hjJ⟩
                    have HN1' : Hid (Calls Try.prog 17 #[.pointer (some ⟨Y, 0, none⟩)] wr fun r w' => r = .returned (.tuple #[.agg #[.string xk, .int .i64 xi], .bool true]) ∧ Wk w' Y T sb sc false (markE J2 (j + 1)) ∧ Below w2.heap.size w2 w' ∧ Far (fun a => a = Y) wr w') := by have h := HN1.out; rw [hx] at h; exact h
                    have HXY := (show Hid _ from take_snoc hx)
                    clear HN1 hx hjJ
                    go_wp2_with fail
                    refine Calls.mono HN1'.out ?_
                    rintro e w9 ⟨rfl, hk9, hb9, hf9⟩
                    obtain ⟨WA, hWA, hbA, hsA, rA⟩ := boxE_any w9 xk xi
                    have hs9 := hf9.size
                    have Q7 : Hid (Wk WA Y T sb sc false (markE J2 (j + 1)) ∧ Wk WA Z T sa sc false none ∧ WA.heap[w7.heap.size]? = some (.cells #[.pointer (some ⟨X, 0, none⟩), .pointer (some ⟨Y, 0, none⟩)] 31 (0, 0)) ∧ OwE w2 W8.heap.size u17 (J1 ++ J2.take j) WA ∧ W8.heap.size ≤ WA.heap.size) := by
                      obtain ⟨i0, o0, o1, ir, is⟩ := HQ.out
                      exact ⟨Wk.below hk9 hbA, Wk.below (Wk.far o0 hf9 (by omega)) hbA, (hbA.block _ (show w7.heap.size < w9.heap.size by omega)).trans ((hf9.block _ (show w7.heap.size < wr.heap.size by omega) (show w7.heap.size ≠ Y by omega)).trans o1), (ir.far hf9 (by omega) (by omega)).same hbA, by omega⟩
                    obtain ⟨x0, x1, xf, xl⟩ := row2_of rA
                    have hwA : W8.heap.size ≤ WA.heap.size := by omega
                    have HIR : Hid (OwE w2 W8.heap.size u17 (J1 ++ J2.take j) WA) := by
                      obtain ⟨i0, o0, o1, ir, is⟩ := Q7.out
                      exact ir
                    clear hk9 hb9 hf9 hbA rA HN1' HQ
                    go_wp2_with (first | (at_builtin; refine append_en2 rfl (.tmp 100) (.tmp 102) rfl HIR.out hwA (xk, xi) rfl _ rfl hsA (by rw [List.length_append, List.length_take]; have := HP.out.1; have := HP.out.2.1; have := HP.out.2.2.1; (try simp only [List.length_nil]); omega) ?_; intro s1 u1 h1 hz1 hk1 ho1; have H1 := (show Hid _ from And.intro h1 hk1); clear h1 hk1 ho1))
                    have Q8 : Hid (Wk u1 Y T sb sc false (markE J2 (j + 1)) ∧ Wk u1 Z T sa sc false none ∧ u1.heap[w7.heap.size]? = some (.cells #[.pointer (some ⟨X, 0, none⟩), .pointer (some ⟨Y, 0, none⟩)] 31 (0, 0)) ∧ OwE w2 W8.heap.size s1 (J1 ++ J2.take (j + 1)) u1 ∧ W8.heap.size ≤ u1.heap.size) := by
                      obtain ⟨i0, o0, o1, ir, is⟩ := Q7.out
                      obtain ⟨h1, hk1⟩ := H1.out
                      refine ⟨(hk1 Y (by omega) (ir.ne (.inl (by omega)))).trans i0, (hk1 Z (by omega) (ir.ne (.inl (by omega)))).trans o0, (hk1 w7.heap.size (by omega) (ir.ne (.inl (by omega)))).trans o1, ?_, by omega⟩
                      rw [HXY.out, ← List.append_assoc]; exact h1
                    clear Q7 H1 HIR x0 x1 xf xl
                    go_roundg (70 - (j + 1))
                    case measure => omega
                    case rel => exact ⟨j + 1, by omega, by omega, by simp, Q8.out⟩
                  · have hx : J2[j]? = none := List.getElem?_eq_none (by omega)
                    have HN1' : Hid (Calls Try.prog 17 #[.pointer (some ⟨Y, 0, none⟩)] wr fun r w' => r = .returned (.tuple #[.agg #[.string ⟨#[]⟩, .int .i64 0], .bool false]) ∧ Wk w' Y T sb sc false (markE J2 (j + 1)) ∧ Below w2.heap.size w2 w' ∧ Far (fun a => a = Y) wr w') := by have h := HN1.out; rw [hx] at h; exact h
                    have HXY : Hid (J2.take (j + 1) = J2.take j) := by
                      show J2.take (j + 1) = J2.take j
                      rw [List.take_add_one, hx]; simp
                    clear HN1 hx hjJ
                    go_wp2_with fail
                    refine Calls.mono HN1'.out ?_
                    rintro e w9 ⟨rfl, hk9, hb9, hf9⟩
                    have hbA : Below w9.heap.size w9 (w9.alloc (.cells #[.string ⟨#[]⟩, .int .i64 0] 34)) := (Below.refl _ _).alloc (Nat.le_refl _) _
                    have hs9 := hf9.size
                    have hs9A := hbA.size
                    have Q7 : Hid (Wk (w9.alloc (.cells #[.string ⟨#[]⟩, .int .i64 0] 34)) Y T sb sc false (markE J2 (j + 1)) ∧ Wk (w9.alloc (.cells #[.string ⟨#[]⟩, .int .i64 0] 34)) Z T sa sc false none ∧ (w9.alloc (.cells #[.string ⟨#[]⟩, .int .i64 0] 34)).heap[w7.heap.size]? = some (.cells #[.pointer (some ⟨X, 0, none⟩), .pointer (some ⟨Y, 0, none⟩)] 31 (0, 0)) ∧ OwE w2 W8.heap.size u17 (J1 ++ J2.take (j + 1)) (w9.alloc (.cells #[.string ⟨#[]⟩, .int .i64 0] 34)) ∧ W8.heap.size ≤ (w9.alloc (.cells #[.string ⟨#[]⟩, .int .i64 0] 34)).heap.size) := by
                      obtain ⟨i0, o0, o1, ir, is⟩ := HQ.out
                      rw [HXY.out]
                      exact ⟨Wk.below hk9 hbA, Wk.below (Wk.far o0 hf9 (by omega)) hbA, (hbA.block _ (show w7.heap.size < w9.heap.size by omega)).trans ((hf9.block _ (show w7.heap.size < wr.heap.size by omega) (show w7.heap.size ≠ Y by omega)).trans o1), (ir.far hf9 (by omega) (by omega)).same hbA, by omega⟩
                    clear hk9 hb9 hf9 hbA hs9A HN1' HQ
                    go_wp2
                    go_roundg (70 - (j + 1))
                    case measure => omega
                    case rel => exact ⟨j + 1, by omega, by omega, by simp, Q7.out⟩
                · obtain rfl : j = 70 := by omega
                  have hfin : J1 ++ J2.take 70 = J1 ++ J2 := by rw [List.take_of_length_le (by have := HP.out.2.1; omega)]
                  have QF : Hid (((2 : Nat) = 0 → Wk wr X T sa sb false none) ∧ ((2 : Nat) ≤ 1 → Wk wr Y T sb sc false none) ∧ Wk wr Z T sa sc false none ∧ wr.heap[w7.heap.size]? = some (.cells #[.pointer (some ⟨X, 0, none⟩), .pointer (some ⟨Y, 0, none⟩)] 31 (0, 0)) ∧ OwE w2 W8.heap.size u17 (if (2 : Nat) = 0 then [] else if (2 : Nat) = 1 then J1 else J1 ++ J2) wr ∧ W8.heap.size ≤ wr.heap.size) := by
                    obtain ⟨i0, o0, o1, ir, is⟩ := HQ.out
                    rw [hfin] at ir
                    exact ⟨fun h => absurd h (by decide), fun h => absurd h (by decide), o0, o1, ir, is⟩
                  clear HQ hfin hgg hj hjN
                  go_wp2
                  go_roundg (2 - (1 + 1))
                  case measure => omega
                  case rel => exact ⟨2, by omega, by omega, by simp, QF.out⟩
            · obtain rfl : k = 2 := by omega
              obtain ⟨g1, g2, g3, g4, g5, g6⟩ := HQ.out
              obtain ⟨wl, rfl⟩ : ∃ wl, wl = wr := ⟨_, rfl⟩
              have L0 : Hid (Wk wl Z T sa sc false none ∧ OwE w2 W8.heap.size u17 (J1 ++ J2) wl) := ⟨g3, g5⟩
              have HI17 := (show Hid _ from fun g (hg : u17.ownBlock = some g) => (L0.out.2.own.lt g hg).2)
              have hwl8 : W8.heap.size ≤ wl.heap.size := g6
              clear g1 g2 g3 g4 g5 g6 HQ hkN hgg0 hk0 hk1
              go_wp2_with fail
              go_loopg [18, 23, 24, 106] 70 (fun gg sv _ _ iv wq => ∃ (j : Nat), j ≤ 70 ∧ 70 - j ≤ gg ∧ iv = .int .i64 j ∧ Aside (Wk wq Z T sa sc false (markE J3 j) ∧ OwE w2 W8.heap.size u17 (J1 ++ J2) wq ∧ OwE w2 wl.heap.size sv ([] ++ J3.take j) wq ∧ wl.heap.size ≤ wq.heap.size))
              case atStart => exact ⟨0, Nat.zero_le _, by omega, rfl, by rw [mark_zero]; exact L0.out.1, L0.out.2, OwE.nil L0.out.2.below L0.out.2.below.size, Nat.le_refl _⟩
              case round =>
                obtain ⟨j, hjN, hgg, rfl, HR⟩ := hrel
                have HQ := (show Hid _ from HR.out)
                clear HR L0
                by_cases hj : j < 70
                · have zj : (j : Int) < 70 := by omega
                  obtain ⟨F, ht⟩ := Both.tree HB.out.1
                  have hsz : wl.heap.size ≤ wr.heap.size := by
                    obtain ⟨i0, f0, ir, is⟩ := HQ.out
                    exact is
                  have hn1 := WNext_on ht HB.out.2.2.1 (by
                    obtain ⟨i0, f0, ir, is⟩ := HQ.out
                    exact ir.below) (show w2.heap.size ≤ Z by omega) HQ.out.1
                  rw [HP.out.2.2.2.2.2.1, mark_step] at hn1
                  have HN1 := (show Hid _ from hn1)
                  clear ht hn1
                  by_cases hjJ : j < J3.length
                  · obtain ⟨⟨xk, xi⟩, hx⟩ : ∃ x, J3[j]? = some x := ⟨_, List.getElem?_eq_getElem hjJ⟩
                    have HN1' : Hid (Calls Try.prog 17 #[.pointer (some ⟨Z, 0, none⟩)] wr fun r w' => r = .returned (.tuple #[.agg #[.string xk, .int .i64 xi], .bool true]) ∧ Wk w' Z T sa sc false (markE J3 (j + 1)) ∧ Below w2.heap.size w2 w' ∧ Far (fun a => a = Z) wr w') := by have h := HN1.out; rw [hx] at h; exact h
                    have HXY := (show Hid _ from take_snoc hx)
                    clear HN1 hx hjJ
                    go_wp2_with fail
                    refine Calls.mono HN1'.out ?_
                    rintro e w9 ⟨rfl, hk9, hb9, hf9⟩
                    obtain ⟨WA, hWA, hbA, hsA, rA⟩ := boxE_any w9 xk xi
                    have hs9 := hf9.size
                    have Q7 : Hid (Wk WA Z T sa sc false (markE J3 (j + 1)) ∧ OwE w2 W8.heap.size u17 (J1 ++ J2) WA ∧ OwE w2 wl.heap.size u18 ([] ++ J3.take j) WA ∧ wl.heap.size ≤ WA.heap.size) := by
                      obtain ⟨i0, f0, ir, is⟩ := HQ.out
                      exact ⟨Wk.below hk9 hbA, (f0.far hf9 (by omega) (by omega)).same hbA, (ir.far hf9 (by omega) (by omega)).same hbA, by omega⟩
                    obtain ⟨x0, x1, xf, xl⟩ := row2_of rA
                    have hwA : wl.heap.size ≤ WA.heap.size := by omega
                    have HIR : Hid (OwE w2 wl.heap.size u18 ([] ++ J3.take j) WA) := by
                      obtain ⟨i0, f0, ir, is⟩ := Q7.out
                      exact ir
                    clear hk9 hb9 hf9 hbA rA HN1' HQ
                    go_wp2_with (first | (at_builtin; refine append_en2 rfl (.tmp 114) (.tmp 116) rfl HIR.out hwA (xk, xi) rfl _ rfl hsA (by rw [List.length_append, List.length_take]; have := HP.out.1; have := HP.out.2.1; have := HP.out.2.2.1; (try simp only [List.length_nil]); omega) ?_; intro s1 u1 h1 hz1 hk1 ho1; have H1 := (show Hid _ from And.intro h1 hk1); clear h1 hk1 ho1))
                    have Q8 : Hid (Wk u1 Z T sa sc false (markE J3 (j + 1)) ∧ OwE w2 W8.heap.size u17 (J1 ++ J2) u1 ∧ OwE w2 wl.heap.size s1 ([] ++ J3.take (j + 1)) u1 ∧ wl.heap.size ≤ u1.heap.size) := by
                      obtain ⟨i0, f0, ir, is⟩ := Q7.out
                      obtain ⟨h1, hk1⟩ := H1.out
                      refine ⟨(hk1 Z (by omega) (ir.ne (.inl (by omega)))).trans i0, f0.other h1.below fun b hb hlt => hk1 b hlt fun e => (by have q1 := HI17.out b hb; have q2 := (ir.own.lt b e).1; omega), ?_, by omega⟩
                      rw [HXY.out, ← List.append_assoc]; exact h1
                    clear Q7 H1 HIR x0 x1 xf xl
                    go_roundg (70 - (j + 1))
                    case measure => omega
                    case rel => exact ⟨j + 1, by omega, by omega, by simp, Q8.out⟩
                  · have hx : J3[j]? = none := List.getElem?_eq_none (by omega)
                    have HN1' : Hid (Calls Try.prog 17 #[.pointer (some ⟨Z, 0, none⟩)] wr fun r w' => r = .returned (.tuple #[.agg #[.string ⟨#[]⟩, .int .i64 0], .bool false]) ∧ Wk w' Z T sa sc false (markE J3 (j + 1)) ∧ Below w2.heap.size w2 w' ∧ Far (fun a => a = Z) wr w') := by have h := HN1.out; rw [hx] at h; exact h
                    have HXY : Hid (J3.take (j + 1) = J3.take j) := by
                      show J3.take (j + 1) = J3.take j
                      rw [List.take_add_one, hx]; simp
                    clear HN1 hx hjJ
                    go_wp2_with fail
                    refine Calls.mono HN1'.out ?_
                    rintro e w9 ⟨rfl, hk9, hb9, hf9⟩
                    have hbA : Below w9.heap.size w9 (w9.alloc (.cells #[.string ⟨#[]⟩, .int .i64 0] 34)) := (Below.refl _ _).alloc (Nat.le_refl _) _
                    have hs9 := hf9.size
                    have hs9A := hbA.size
                    have Q7 : Hid (Wk (w9.alloc (.cells #[.string ⟨#[]⟩, .int .i64 0] 34)) Z T sa sc false (markE J3 (j + 1)) ∧ OwE w2 W8.heap.size u17 (J1 ++ J2) (w9.alloc (.cells #[.string ⟨#[]⟩, .int .i64 0] 34)) ∧ OwE w2 wl.heap.size u18 ([] ++ J3.take (j + 1)) (w9.alloc (.cells #[.string ⟨#[]⟩, .int .i64 0] 34)) ∧ wl.heap.size ≤ (w9.alloc (.cells #[.string ⟨#[]⟩, .int .i64 0] 34)).heap.size) := by
                      obtain ⟨i0, f0, ir, is⟩ := HQ.out
                      rw [HXY.out]
                      exact ⟨Wk.below hk9 hbA, (f0.far hf9 (by omega) (by omega)).same hbA, (ir.far hf9 (by omega) (by omega)).same hbA, by omega⟩
                    clear hk9 hb9 hf9 hbA hs9A HN1' HQ
                    go_wp2
                    go_roundg (70 - (j + 1))
                    case measure => omega
                    case rel => exact ⟨j + 1, by omega, by omega, by simp, Q7.out⟩
                · obtain rfl : j = 70 := by omega
                  have hfin : [] ++ J3.take 70 = J1 ++ J2 := by rw [List.take_of_length_le (by have := HP.out.2.2.1; omega), List.nil_append]; exact HP.out.2.2.2.2.2.2.symm
                  have hl6 : (J1 ++ J2).length ≤ 1000000 := by rw [List.length_append]; have := HP.out.1; have := HP.out.2.1; omega
                  obtain ⟨i0, f0, ir, is⟩ := HQ.out
                  rw [hfin] at ir
                  have hs1 := Same_any (J1 ++ J2) (J1 ++ J2) _ _ _ _ wr f0.own ir.own hl6
                  rw [decide_eq_true (rfl : J1 ++ J2 = J1 ++ J2)] at hs1
                  have HS1 := (show Hid _ from hs1)
                  have HW := (show Hid _ from f0.below)
                  clear i0 f0 ir hs1 hl6 hfin HQ hgg hj hjN
                  go_wp2_with fail
                  refine Calls.mono HS1.out ?_
                  rintro e wz ⟨rfl, hbz⟩
                  have HF : Hid (Below w.heap.size w wz) := HB.out.2.2.2.trans ((HW.out.trans (hbz.mono HW.out.size)).mono HB.out.2.2.2.size)
                  clear hbz HW HS1
                  go_wp2
                  go_ret
                  exact ⟨rfl, HF.out⟩
end Go.Proofs.Ytoaekmighinmhaa
