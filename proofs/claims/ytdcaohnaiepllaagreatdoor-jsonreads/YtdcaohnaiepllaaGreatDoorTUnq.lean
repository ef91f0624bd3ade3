/-
  The program's Unquote by its contract: it tells what the plain function reads. Condition: the text has at most 2^47 - 8 bytes.
-/
import Derived.Test.YtdcaohnaiepllaaGreatDoorTFirst
import Derived.Lib.ItoaLen
import Derived.Lib.AppendIntMem
import Derived.WalkSmall
namespace Go.Proofs.YtdcaohnaiepllaaGreatDoor
open Go.RowKit Go.Extern.Stop Go.Stop Go.Extern

theorem gPow : Tryz.prog.globalNamed "internal/strconv.uint64pow10" = some 4 := by kernel_rfl
def Pow (w : World) : Prop := Lib.TabIs Tryz.prog w "internal/strconv.uint64pow10" .u64 Lib.pow10Tab
theorem Pow.below {w w' : World} (h : Pow w) (hb : Below w.heap.size w w') : Pow w' := by
  have hc := Lib.TabIs.cell h gPow 0 (by decide)
  exact var?_below hb gPow (lt_of_cellT hc) h

/-- what the walks need of the variables. -/
structure TEnv (w : World) : Prop where
  handle : Handle w
  tabs : TTabs w
  pow : Pow w
theorem TEnv.below {w w' : World} (h : TEnv w) (hb : Below w.heap.size w w') : TEnv w' := ⟨h.handle.below hb, h.tabs.below hb, h.pow.below hb⟩

/-- an error that the program made for what is wrong. -/
def Bad (w : World) (v : Value) : Prop := ∃ p, Chain w (.iface 38 (.int .i64 1)) [p] v
theorem Bad.below {w w' : World} {v : Value} (h : Bad w v) (hb : Below w.heap.size w w') : Bad w' v := by
  obtain ⟨p, h⟩ := h
  exact ⟨p, h.below hb⟩

theorem wrong_any (k : Nat) (hk : k ≤ 140737488355328) (w : World) (hE : TEnv w) :
    Calls Tryz.prog 108 #[.int .i64 (k : Int)] w fun e w' => ∃ v, e = .returned (.tuple #[.string ⟨#[]⟩, .int .i64 0, v]) ∧ Bad w' v ∧ Below w.heap.size w w' := by
  have hl := Lib.itoa_length_le (k : Int) (by omega) (by omega)
  go_enter Tryz.func108, Tryz.ntmps108
  go_wp2_with fail
  refine (Tryz.strconv_Itoa (k : Int) (by omega) (by omega) _ hE.pow).mono ?_
  rintro e w1 ⟨rfl, j, os, rfl⟩
  have hB := Lib.below_grow w.heap.size w (Nat.le_refl _) j os
  generalize Sort.grow (w.drewN j) os = W1 at *
  generalize Lib.itoa (k : Int) = it at *
  go_wp2_with fail
  refine (New_some 1 rfl _ _).mono ?_
  rintro e w2 ⟨rfl, rfl⟩
  go_wp2
  go_ret3
  refine ⟨_, rfl, ⟨⟨#[116, 101, 120, 116, 44, 32, 98, 121, 116, 101, 32]⟩ ++ ⟨it.toArray⟩, _, _, rfl, ?_, rfl⟩, hB.alloc hB.size _⟩
  show (Array.push _ _)[_]? = _
  rw [Array.getElem?_push, if_pos rfl]

theorem below_ownsRowF {w w' : World} {base : Nat} {e : TypeId} {size : Nat} {v : Value} {n : Nat} {xs : List Value} (h : w.ownsRowF base e size v n xs) (hb : Below w.heap.size w w') : w'.ownsRowF base e size v n xs :=
  h.kept (row := none) ⟨hb.os, hb.tape, hb.output, hb.size, fun k hk _ => hb.block k hk⟩ (by cases v.ownBlock <;> simp)
theorem below_builderAt {T e : TypeId} {B b : Nat} {p : Value} {bs : List Value} {w w' : World} (h : Lib.BuilderAtF T e B b p bs w) (hb : Below w.heap.size w w') : Lib.BuilderAtF T e B b p bs w' := by
  have hl := h.lt
  obtain ⟨h1, v, h2, h3, h4⟩ := h
  exact ⟨h1, v, by rw [hb.block b hl]; exact h2, below_ownsRowF h3 hb, h4⟩
/-- a builder at a block that holds bytes. -/
def Bld (b : Nat) (l : List UInt8) (w : World) : Prop := Lib.IsBuilderF 66 5 b b (Lib.byteCells l) w
theorem Bld.below {b : Nat} {l : List UInt8} {w w' : World} (h : Bld b l w) (hb : Below w.heap.size w w') : Bld b l w' :=
  h.elim (fun x => .inl (below_builderAt x hb)) (fun x => .inr (below_builderAt x hb))
theorem Bld.lt {b : Nat} {l : List UInt8} {w : World} (h : Bld b l w) : b < w.heap.size := h.elim (·.lt) (·.lt)
theorem Bld.new (w : World) : Bld w.heap.size [] (w.alloc (.cells #[.pointer none, .slice none 0 0] 66)) :=
  .inl ⟨Nat.le_refl _, .slice none 0 0, by show (w.heap.push _)[w.heap.size]? = _; simp, World.ownsRowF_nil _ _ _ _, by simp [Value.ownBlock]⟩
theorem bytes_length (l : List UInt8) : (Lib.byteCells l).length = l.length := by simp [Lib.byteCells]

theorem writeByte (b : Nat) (l : List UInt8) (x : UInt8) (w : World) (h : Bld b l w) (hl : l.length + 1 ≤ 140737488355328) :
    Calls Tryz.prog 80 #[.pointer (some ⟨b, 0, none⟩), .int .u8 (x.toNat : Int)] w fun e w' => e = .returned .nilIface ∧ Bld b (l ++ [x]) w' ∧ Below b w w' := by
  refine (Tryz.Builder_WriteByte_k b b _ _ w h (by rw [bytes_length]; exact hl) (Nat.le_of_lt h.lt)).mono ?_
  rintro e w' ⟨rfl, h1, h2, _⟩
  refine ⟨rfl, .inr ?_, h2⟩
  have e : Lib.byteCells (l ++ [x]) = Lib.byteCells l ++ [.int .u8 (x.toNat : Int)] := by simp [Lib.byteCells]
  rw [e]; exact h1
theorem writeString (b : Nat) (l : List UInt8) (s : ByteArray) (m : List UInt8) (hs : s.data.toList = m) (w : World) (h : Bld b l w) (hl : l.length + m.length ≤ 140737488355328) :
    Calls Tryz.prog 53 #[.pointer (some ⟨b, 0, none⟩), .string s] w fun e w' => e = .returned (.tuple #[.int .i64 s.size, .nilIface]) ∧ Bld b (l ++ m) w' ∧ Below b w w' := by
  refine (Tryz.Builder_WriteString_k b b _ _ w h (by rw [bytes_length, size_list hs]; exact hl) (Nat.le_of_lt h.lt)).mono ?_
  rintro e w' ⟨rfl, h1, h2, _⟩
  refine ⟨rfl, .inr ?_, h2⟩
  have e : Lib.byteCells (l ++ m) = Lib.byteCells l ++ Lib.strCells s := by subst hs; simp [Lib.byteCells, Lib.strCells]
  rw [e]; exact h1
theorem writeRune (b : Nat) (l : List UInt8) (r : Nat) (hr : r ≤ 1114111) (w : World) (h : Bld b l w) (hl : l.length + 4 ≤ 140737488355328) :
    Calls Tryz.prog 110 #[.pointer (some ⟨b, 0, none⟩), .int .i32 (r : Int)] w fun e w' => ∃ z, e = .returned (.tuple #[.int .i64 z, .nilIface]) ∧ Bld b (l ++ Lib.encodeRune (r : Int)) w' ∧ Below b w w' := by
  refine (Tryz.Builder_WriteRune_k b b _ (r : Int) (by omega) (by omega) w h (by rw [bytes_length]; exact hl) (Nat.le_of_lt h.lt)).mono ?_
  rintro e w' ⟨rfl, h1, h2, _⟩
  refine ⟨_, rfl, .inr ?_, h2⟩
  have e : Lib.byteCells (l ++ Lib.encodeRune (r : Int)) = Lib.byteCells l ++ Lib.runeCells (r : Int) := by rw [← Lib.byteCells_encodeRune]; simp [Lib.byteCells]
  rw [e]; exact h1
theorem stringOf (b : Nat) (l : List UInt8) (w : World) (h : Bld b l w) :
    Calls Tryz.prog 27 #[.pointer (some ⟨b, 0, none⟩)] w fun e w' => e = .returned (.string ⟨l.toArray⟩) ∧ Below b w w' := by
  refine (Tryz.Builder_String_any_k b b l w h (Nat.le_of_lt h.lt)).mono ?_
  rintro e w' ⟨rfl, _, h2, _⟩
  exact ⟨rfl, h2⟩

theorem enc_length (r : Nat) : (Lib.encodeRune (r : Int)).length ≤ 4 ∧ (r < 65536 → (Lib.encodeRune (r : Int)).length ≤ 3) ∧ (r < 128 → (Lib.encodeRune (r : Int)).length ≤ 1) := by
  have e : (Lib.encodeRune (r : Int)).length = (Lib.encodeRuneZ (r : Int)).length := by simp [Lib.encodeRune]
  rw [e]
  refine ⟨(Lib.encodeRuneZ_length _).2, fun h => ?_, fun h => ?_⟩
  · by_cases h1 : r ≤ 127
    · rw [Lib.encodeRuneZ_one (by omega) (by omega)]; simp
    · by_cases h2 : r ≤ 2047
      · rw [Lib.encodeRuneZ_two (by omega) (by omega)]; simp
      · by_cases h3 : 55296 ≤ r ∧ r ≤ 57343
        · rw [Lib.encodeRuneZ_bad (by omega)]; simp
        · rw [Lib.encodeRuneZ_three (by omega)]; simp
  · rw [Lib.encodeRuneZ_one (by omega) (by omega)]; simp
theorem unitsL_len {l : List UInt8} {c n : Nat} (h : unitsL l = some (c, n)) : n ≤ l.length ∧ (Lib.encodeRune (c : Int)).length ≤ n := by
  have hc := enc_length c
  unfold unitsL at h
  split at h
  · cases h
  · rename_i a ha
    have := unitU_lt ha
    have hl : 6 ≤ l.length := by
      rcases Nat.lt_or_ge l.length 6 with h' | h'
      · rw [unitU_few h'] at ha; cases ha
      · exact h'
    split at h
    · cases h
    · split at h
      · simp only [Option.some.injEq, Prod.mk.injEq] at h
        omega
      · split at h
        · cases h
        · rename_i b hb
          have hl2 : 6 ≤ (l.drop 6).length := by
            rcases Nat.lt_or_ge (l.drop 6).length 6 with h' | h'
            · rw [unitU_few h'] at hb; cases hb
            · exact h'
          rw [List.length_drop] at hl2
          split at h
          · simp only [Option.some.injEq, Prod.mk.injEq] at h
            omega
          · cases h
theorem one_len {l : List UInt8} {c n : Nat} (hne : l ≠ []) (h : one l = some (c, n)) : n ≤ l.length ∧ (Lib.encodeRune (c : Int)).length ≤ n := by
  have hc := enc_length c
  unfold one at h
  split at h
  · cases h
  · rename_i hb
    split at h
    · unfold escL at h
      split at h
      · repeat' split at h
        all_goals first | exact unitsL_len h | (simp only [Option.some.injEq, Prod.mk.injEq] at h; simp only [List.length_cons]; omega) | cases h
      · cases h
    · have e := Option.some.inj h
      have h1 := Lib.decodeL_le l hne
      have h2 := Lib.encode_decode l hne (fun h' => hb (.inr h'))
      rw [e] at h1 h2
      rw [h2, List.length_take]
      exact ⟨h1, by omega⟩
end Go.Proofs.YtdcaohnaiepllaaGreatDoor
