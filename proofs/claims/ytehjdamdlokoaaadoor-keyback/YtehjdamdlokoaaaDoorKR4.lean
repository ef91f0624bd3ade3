/-
  The program's reader of keys: lists, objects. Conditions: as stated.
-/
import Derived.Test.YtehjdamdlokoaaaDoorKR3
namespace Go.Proofs.YtehjdamdlokoaaaDoor
open Go.RowKit

/-- what value answers. -/
def ValA (w0 : World) (b : Nat) (w : World) (n : Nat) (res : Option (V × List UInt8)) (e : Ending) (w' : World) : Prop :=
  KeptB b w w' ∧ match res with
  | none => ∃ k m t, e = .returned (.tuple #[.agg #[.int .i64 k, .int .i64 m, .string t, .slice none 0 0, .slice none 0 0], .bool false])
  | some p => ∃ l f, e = .returned (.tuple #[.agg #[.int .i64 p.1.kind, .int .i64 p.1.num, .string p.1.text, l, f], .bool true]) ∧ Rep (fun c => w.heap.size ≤ c) n w' p.1 l f ∧ RdK w0 b p.2 w'
/-- what field answers. -/
def FldA (w0 : World) (b : Nat) (w : World) (n : Nat) (res : Option ((ByteArray × V) × List UInt8)) (e : Ending) (w' : World) : Prop :=
  KeptB b w w' ∧ match res with
  | none => ∃ s k m t, e = .returned (.tuple #[.agg #[.string s, .int .i64 k, .int .i64 m, .string t, .slice none 0 0, .slice none 0 0], .bool false])
  | some p => ∃ l f, e = .returned (.tuple #[.agg #[.string p.1.1, .int .i64 p.1.2.kind, .int .i64 p.1.2.num, .string p.1.2.text, l, f], .bool true]) ∧ Rep (fun c => w.heap.size ≤ c) n w' p.1.2 l f ∧ RdK w0 b p.2 w'
def aheadR {α : Type} (pre : List α) (o : Option (List α × List UInt8)) : Option (List α × List UInt8) := o.map (fun p => (pre ++ p.1, p.2))
theorem aheadR_more {α : Type} (pre : List α) (x : α) (o : Option (List α × List UInt8)) : aheadR pre (o.map (fun q => (x :: q.1, q.2))) = aheadR (pre ++ [x]) o := by
  cases o <;> simp [aheadR]
theorem take_not {w0 w : World} {b : Nat} {l : List UInt8} (R : RdK w0 b l w) (h : ¬ l.head? = some 0) :
    Calls Tryd.prog 48 #[.pointer (some ⟨b, 0, none⟩), .int .u8 0] w fun e w' => e = .returned (.bool false) ∧ w' = w := by
  cases l with
  | nil => exact take_nil R 0
  | cons c r =>
    refine take_no R 0 fun e => h ?_
    have : c = 0 := UInt8.toNat_inj.1 (show c.toNat = 0 by omega)
    simp [this]

/-- what list answers. -/
def LsA (w0 : World) (b : Nat) (w : World) (n : Nat) (res : Option (List V × List UInt8)) (e : Ending) (w' : World) : Prop :=
  KeptB b w w' ∧ match res with
  | none => e = .returned (.tuple #[.slice none 0 0, .bool false])
  | some p => ∃ (s : Value) (es : List El), e = .returned (.tuple #[s, .bool true]) ∧ es.map El.v = p.1 ∧ RowAt (fun c => w.heap.size ≤ c) w' 28 5 s es.length (encEs es) ∧ (∀ e ∈ es, Rep (fun c => w.heap.size ≤ c) n w' e.v e.l e.f) ∧ RdK w0 b p.2 w'

set_option maxRecDepth 100000 in
set_option maxHeartbeats 8000000 in
theorem list_any (n : Nat) (D : Int) (ih : ∀ (w0 : World) (b : Nat) (l : List UInt8) (w : World), RdK w0 b l w → Calls Tryd.prog 24 #[.pointer (some ⟨b, 0, none⟩), .int .i64 D] w (ValA w0 b w n (valueK n l))) {w0 w : World} {b : Nat} {l : List UInt8} (R : RdK w0 b l w) :
    Calls Tryd.prog 39 #[.pointer (some ⟨b, 0, none⟩), .int .i64 D] w (LsA w0 b w n (rowK (valueK n) (l.length + 1) l)) := by
  obtain ⟨res, hres⟩ : ∃ r, rowK (valueK n) (l.length + 1) l = r := ⟨_, rfl⟩
  rw [hres]
  have HR := (show Hid _ from And.intro R hres)
  have hI := (show Hid _ from And.intro ih ih)
  clear R hres ih
  go_enter Tryd.func39, Tryd.ntmps39
  go_wp2_with fail
  go_loopg [6, 7, 8] (l.length + 1) (fun gg s6 _ _ wr => ∃ (l' : List UInt8) (es : List El) (m : Nat), l'.length + 1 ≤ gg ∧ l'.length < m ∧ Aside (LsK w0 w b n l' s6 es wr ∧ aheadR (es.map El.v) (rowK (valueK n) m l') = res ∧ es.length + l'.length ≤ 1000000))
  case atStart =>
    obtain ⟨R, hres⟩ := HR.out
    refine ⟨l, [], l.length + 1, by omega, by omega, ⟨R, World.ownsRow_nil _ _ _ _, fun e he => (by cases he), KeptB.refl _ _, R.lt⟩, ?_, by simpa using R.len⟩
    rw [hres]
    cases res <;> rfl
  case round =>
    obtain ⟨l', es, m, hgg, hm, A⟩ := hrel
    obtain ⟨m, rfl⟩ : ∃ m', m = m' + 1 := ⟨m - 1, by omega⟩
    clear HR
    by_cases h0 : l'.head? = some 0
    · obtain ⟨r, rfl⟩ : ∃ r, l' = 0 :: r := by
        cases l' with
        | nil => simp at h0
        | cons c r => simp at h0; exact ⟨r, by rw [h0]⟩
      have ht := take_yes A.out.1.rd 0 rfl
      go_wp2_with fail
      refine ht.mono ?_
      rintro e w1 ⟨rfl, K1, R1⟩
      have H1 := (show Hid _ from A.out.1.read K1 R1)
      clear ht K1 R1
      go_wp2_with fail
      go_ret2
      obtain ⟨T, hres, hlen⟩ := A.out
      have hk := H1.out.kept
      refine ⟨hk, ?_⟩
      rw [rowK, if_pos h0] at hres
      subst hres
      have hl := H1.out
      simp only [List.length_cons] at hlen
      exact ⟨_, es, rfl, by simp, ⟨ownsRow_move (fun c _ _ => ⟨Nat.zero_le _, rfl⟩) hl.own, by omega, fun c hc => (hl.own.lt c hc).1⟩, fun e he => (hl.rep e he).move fun c hc _ => ⟨hc.1, rfl⟩, hl.rd⟩
    · have ht := take_not A.out.1.rd h0
      have HN := (show Hid _ from h0)
      clear h0
      go_wp2_with fail
      refine ht.mono ?_
      rintro e w1 ⟨rfl, rfl⟩
      have hv := hI.out.1 w0 b l' w1 A.out.1.rd
      obtain ⟨rv, hrv⟩ : ∃ r, valueK n l' = r := ⟨_, rfl⟩
      rw [hrv] at hv
      have HV := (show Hid _ from hrv)
      clear ht hrv
      go_wp2_with fail
      refine hv.mono ?_
      rintro e w2 ⟨K2, h2⟩
      clear hv
      cases rv with
      | none =>
        obtain ⟨kk, mm, tt, rfl⟩ := h2
        have H2 := (show Hid _ from K2)
        clear K2
        go_wp2_with fail
        go_ret2
        obtain ⟨T, hres, hlen⟩ := A.out
        refine ⟨(T.kept.trans H2.out).trans (KeptB.of_below ((Below.refl _ _).alloc (Nat.le_refl _) _)), ?_⟩
        rw [rowK, if_neg HN.out, HV.out] at hres
        subst hres
        rfl
      | some rv =>
        obtain ⟨x, rest⟩ := rv
        obtain ⟨xl, xf, rfl, hrx, R2⟩ := h2
        simp only at hrx R2 ⊢
        obtain ⟨bl, dl, bf, df, rfl, rfl⟩ := hrx.slices
        have hL2 := A.out.1.read K2 R2
        have hrx' : Rep (fun c => w.heap.size ≤ c ∧ u6.ownBlock ≠ some c) n w2 x (.slice bl x.list.length dl) (.slice bf x.fields.length df) := hrx.move fun c hc _ => ⟨⟨by have := A.out.1.kept.size; omega, fun e => by have := (A.out.1.own.lt c e).2; omega⟩, rfl⟩
        have hsh := valueK_less n l' _ HV.out
        simp only at hsh
        have H2 := (show Hid _ from And.intro hL2 (And.intro hrx' hsh))
        have HB : Hid (es.length + 1 ≤ 1000000) := by have := A.out.2.2; show _ ≤ _; omega
        clear K2 R2 hrx hL2 hrx' hsh
        go_wp2_with (first | (at_builtin; refine append_val rfl (.tmp 20) (.tmp 22) rfl H2.out.1 x _ _ _ _ _ _ H2.out.2.1 rfl _ rfl (by simp) HB.out _ ?_; intro s1 u1 h1; have H4 := (show Hid _ from h1); clear h1))
        go_roundg (rest.length + 1)
        case measure => have := H2.out.2.2; omega
        case rel =>
          obtain ⟨T, hres, hlen⟩ := A.out
          have hsh := H2.out.2.2
          refine ⟨rest, es ++ [⟨x, .slice bl x.list.length dl, .slice bf x.fields.length df⟩], m, Nat.le_refl _, by omega, H4.out, ?_, ?_⟩
          · rw [rowK, if_neg HN.out, HV.out] at hres
            have hres2 : aheadR (es.map El.v) ((rowK (valueK n) m rest).map (fun q => (x :: q.1, q.2))) = res := hres
            rw [← hres2, aheadR_more, List.map_append]
            rfl
          · rw [List.length_append, List.length_singleton]
            omega

/-- what fields answers. -/
def FsA (w0 : World) (b : Nat) (w : World) (n : Nat) (res : Option (List (ByteArray × V) × List UInt8)) (e : Ending) (w' : World) : Prop :=
  KeptB b w w' ∧ match res with
  | none => e = .returned (.tuple #[.slice none 0 0, .bool false])
  | some p => ∃ (s : Value) (es : List Fl), e = .returned (.tuple #[s, .bool true]) ∧ es.map Fl.pair = p.1 ∧ RowAt (fun c => w.heap.size ≤ c) w' 50 6 s es.length (encFs es) ∧ (∀ e ∈ es, Rep (fun c => w.heap.size ≤ c) n w' e.v e.l e.f) ∧ RdK w0 b p.2 w'

set_option maxRecDepth 100000 in
set_option maxHeartbeats 8000000 in
theorem fields_any (n : Nat) (D : Int) (ih : ∀ (w0 : World) (b : Nat) (l : List UInt8) (w : World), RdK w0 b l w → Calls Tryd.prog 49 #[.pointer (some ⟨b, 0, none⟩), .int .i64 D] w (FldA w0 b w n (fieldK (valueK n) l))) {w0 w : World} {b : Nat} {l : List UInt8} (R : RdK w0 b l w) :
    Calls Tryd.prog 40 #[.pointer (some ⟨b, 0, none⟩), .int .i64 D] w (FsA w0 b w n (rowK (fieldK (valueK n)) (l.length + 1) l)) := by
  obtain ⟨res, hres⟩ : ∃ r, rowK (fieldK (valueK n)) (l.length + 1) l = r := ⟨_, rfl⟩
  rw [hres]
  have HR := (show Hid _ from And.intro R hres)
  have hI := (show Hid _ from And.intro ih ih)
  clear R hres ih
  go_enter Tryd.func40, Tryd.ntmps40
  go_wp2_with fail
  go_loopg [6, 7, 8] (l.length + 1) (fun gg s6 _ _ wr => ∃ (l' : List UInt8) (es : List Fl) (m : Nat), l'.length + 1 ≤ gg ∧ l'.length < m ∧ Aside (FsK w0 w b n l' s6 es wr ∧ aheadR (es.map Fl.pair) (rowK (fieldK (valueK n)) m l') = res ∧ es.length + l'.length ≤ 1000000))
  case atStart =>
    obtain ⟨R, hres⟩ := HR.out
    refine ⟨l, [], l.length + 1, by omega, by omega, ⟨R, World.ownsRow_nil _ _ _ _, fun e he => (by cases he), KeptB.refl _ _, R.lt⟩, ?_, by simpa using R.len⟩
    rw [hres]
    cases res <;> rfl
  case round =>
    obtain ⟨l', es, m, hgg, hm, A⟩ := hrel
    obtain ⟨m, rfl⟩ : ∃ m', m = m' + 1 := ⟨m - 1, by omega⟩
    clear HR
    by_cases h0 : l'.head? = some 0
    · obtain ⟨r, rfl⟩ : ∃ r, l' = 0 :: r := by
        cases l' with
        | nil => simp at h0
        | cons c r => simp at h0; exact ⟨r, by rw [h0]⟩
      have ht := take_yes A.out.1.rd 0 rfl
      go_wp2_with fail
      refine ht.mono ?_
      rintro e w1 ⟨rfl, K1, R1⟩
      have H1 := (show Hid _ from A.out.1.read K1 R1)
      clear ht K1 R1
      go_wp2_with fail
      go_ret2
      obtain ⟨T, hres, hlen⟩ := A.out
      have hk := H1.out.kept
      refine ⟨hk, ?_⟩
      rw [rowK, if_pos h0] at hres
      subst hres
      have hl := H1.out
      simp only [List.length_cons] at hlen
      exact ⟨_, es, rfl, by simp, ⟨ownsRow_move (fun c _ _ => ⟨Nat.zero_le _, rfl⟩) hl.own, by omega, fun c hc => (hl.own.lt c hc).1⟩, fun e he => (hl.rep e he).move fun c hc _ => ⟨hc.1, rfl⟩, hl.rd⟩
    · have ht := take_not A.out.1.rd h0
      have HN := (show Hid _ from h0)
      clear h0
      go_wp2_with fail
      refine ht.mono ?_
      rintro e w1 ⟨rfl, rfl⟩
      have hv := hI.out.1 w0 b l' w1 A.out.1.rd
      obtain ⟨rv, hrv⟩ : ∃ r, fieldK (valueK n) l' = r := ⟨_, rfl⟩
      rw [hrv] at hv
      have HV := (show Hid _ from hrv)
      clear ht hrv
      go_wp2_with fail
      refine hv.mono ?_
      rintro e w2 ⟨K2, h2⟩
      clear hv
      cases rv with
      | none =>
        obtain ⟨nm, kk, mm, tt, rfl⟩ := h2
        have H2 := (show Hid _ from K2)
        clear K2
        go_wp2_with fail
        go_ret2
        obtain ⟨T, hres, hlen⟩ := A.out
        refine ⟨(T.kept.trans H2.out).trans (KeptB.of_below ((Below.refl _ _).alloc (Nat.le_refl _) _)), ?_⟩
        rw [rowK, if_neg HN.out, HV.out] at hres
        subst hres
        rfl
      | some rv =>
        obtain ⟨⟨nm, x⟩, rest⟩ := rv
        obtain ⟨xl, xf, rfl, hrx, R2⟩ := h2
        simp only at hrx R2 ⊢
        obtain ⟨bl, dl, bf, df, rfl, rfl⟩ := hrx.slices
        have hL2 := A.out.1.read K2 R2
        have hrx' : Rep (fun c => w.heap.size ≤ c ∧ u6.ownBlock ≠ some c) n w2 x (.slice bl x.list.length dl) (.slice bf x.fields.length df) := hrx.move fun c hc _ => ⟨⟨by have := A.out.1.kept.size; omega, fun e => by have := (A.out.1.own.lt c e).2; omega⟩, rfl⟩
        have hsh := fieldK_less (valueK_less n) l' _ HV.out
        simp only at hsh
        have H2 := (show Hid _ from And.intro hL2 (And.intro hrx' hsh))
        have HB : Hid (es.length + 1 ≤ 1000000) := by have := A.out.2.2; show _ ≤ _; omega
        clear K2 R2 hrx hL2 hrx' hsh
        go_wp2_with (first | (at_builtin; refine append_fld rfl (.tmp 20) (.tmp 22) rfl H2.out.1 nm x _ _ _ _ _ _ H2.out.2.1 rfl _ rfl (by simp) HB.out _ ?_; intro s1 u1 h1; have H4 := (show Hid _ from h1); clear h1))
        go_roundg (rest.length + 1)
        case measure => have := H2.out.2.2; omega
        case rel =>
          obtain ⟨T, hres, hlen⟩ := A.out
          have hsh := H2.out.2.2
          refine ⟨rest, es ++ [⟨nm, x, .slice bl x.list.length dl, .slice bf x.fields.length df⟩], m, Nat.le_refl _, by omega, H4.out, ?_, ?_⟩
          · rw [rowK, if_neg HN.out, HV.out] at hres
            have hres2 : aheadR (es.map Fl.pair) ((rowK (fieldK (valueK n)) m rest).map (fun q => ((nm, x) :: q.1, q.2))) = res := hres
            rw [← hres2, aheadR_more, List.map_append]
            rfl
          · rw [List.length_append, List.length_singleton]
            omega
end Go.Proofs.YtehjdamdlokoaaaDoor
