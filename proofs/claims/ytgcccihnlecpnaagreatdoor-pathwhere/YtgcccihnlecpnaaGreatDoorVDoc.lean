/-
  The law's Doc by its contract. No conditions beyond those stated.
-/
import Derived.Test.YtgcccihnlecpnaaGreatDoorVMade5
namespace Go.Proofs.YtgcccihnlecpnaaGreatDoor
open Go.RowKit

def DocV (w w' : World) (x : V) (l f : Value) : Prop := OfV w w' x l f ∧ x.kind = 5

theorem run_append_zero {P : Program} {w : World} (t ty e : TypeId) (i : TypeInfo) (B : Nat) (a : Option Addr) (c : Nat) (ht : P.underlying t = some (.slice e)) (hi : P.info? e = some i) :
    (Builtin.append_ #[t, t] ty #[.slice (some ⟨B, 0, none⟩) 1 1, .slice a 0 c]).run P w = .ok (.slice (some ⟨B, 0, none⟩) 1 1) w := by
  cases a with
  | none => simp [Builtin.append_, run_underlying ht, sizeOf, typeInfo, hi, Builtin.lenOf, Builtin.firstCells, storeCells]
  | some ad => simp [Builtin.append_, run_underlying ht, sizeOf, typeInfo, hi, Builtin.lenOf, Builtin.firstCells, storeCells, loadCells, loadCellsFrom]

theorem wpList_append_zero {P : Program} {w : World} {ops : Array Oper} {rest : List Oper} {o : Oper} {a : Act} {Q : Exit → Act → World → Prop} (hgd : o.guard = none) (s x : Operand) (t : TypeId)
    (ho : o.op = .call { callee := .builtin .append, args := #[s, x], argTypes := #[t, t] }) (e : TypeId) (i : TypeInfo) (ht : P.underlying t = some (.slice e)) (hi : P.info? e = some i)
    (B : Nat) (a' : Option Addr) (c : Nat) (hs : a.eval s = .slice (some ⟨B, 0, none⟩) 1 1) (hx : a.eval x = .slice a' 0 c)
    (h : wpList P ops Q rest (a.put o.dst (.slice (some ⟨B, 0, none⟩) 1 1)) w) : wpList P ops Q (o :: rest) a w := by
  refine wpList_plain hgd fun K hK => ?_
  have hrun := run_append_zero (P := P) (w := w) t o.type e i B a' c ht hi
  unfold Oper.wp
  simp [execOp, ho, resolve, invoke, builtin, hs, hx, hrun, Result.andThen]
  exact hK _ _ h

theorem cell_of_block {W : World} {b j : Nat} {cs : Array Value} {t : TypeId} {v : Value} (h : W.heap[b]? = some (.cells cs t (0, 0))) (hj : cs[j]? = some v) : W.cell? ⟨b, j, none⟩ = some v := by
  simp only [World.cell?, h]
  exact hj
theorem infoU8 : (Tryz.prog.info? 5).map (fun i => (i.zero, i.size, i.bytes)) = some (some (.int .u8 0), 1, 1) := by kernel_rfl
set_option maxRecDepth 100000 in
theorem Made_doc (u : UInt8) (bs : List UInt8) (a : Option Addr) (cap : Nat) (w : World) (hb : BytesAt w (.slice a (bs.length + 1) cap) (u :: bs)) (hT : Tabs w) (hr : (u.toNat : Int) % 6 = 5) : Calls Tryz.prog 17 #[.slice a (bs.length + 1) cap, .int .i64 4] w
    fun e w' => ∃ x l f r, e = .returned (.tuple #[.agg #[.int .i64 x.kind, .int .i64 x.num, .string x.text, l, f], r]) ∧ (MadeV 3 w w' (.slice a (bs.length + 1) cap) (u :: bs) x l f r ∧ x.kind = 5) :=
  Made_obj 2 4 (by omega) (by omega) (Made_any 2 (by omega)) u bs a cap w hb hT hr

theorem doc_byte (u : UInt8) : ((UInt8.ofNat (5 + 6 * (u.toNat % 16))).toNat : Int) = 5 + 6 * ((u.toNat : Int) % 16) := by
  have h : (UInt8.ofNat (5 + 6 * (u.toNat % 16))).toNat = 5 + 6 * (u.toNat % 16) := by simp; omega
  rw [h]; omega
theorem own_bytes {W : World} {base m : Nat} {v : Value} {k : Int} {K : UInt8} {bs : List UInt8} (hk : (K.toNat : Int) = k) (hm : m = bs.length) (h : W.ownsRow base 5 1 v (1 + m) ([.int .u8 k] ++ bs.map fun u => .int .u8 u.toNat)) :
    ∃ g cap, v = .slice (some ⟨g, 0, none⟩) (bs.length + 1) cap ∧ BytesAt W (.slice (some ⟨g, 0, none⟩) (bs.length + 1) cap) (K :: bs) := by
  obtain ⟨h1, h2⟩ := h
  subst hm
  subst hk
  rcases h2 with ⟨_, h2⟩ | ⟨g, cap, cur, rfl, _, hg, hn, hc, hs, ht⟩
  · omega
  · refine ⟨g, cap, by rw [Nat.add_comm], _, _, rfl, by simp; omega, by unfold maxLen at hc; omega, fun _ => ⟨_, _, rfl, fun j u hj => ?_⟩⟩
    refine cell_of_block (by rw [hg]) ?_
    have hj2 : ((K :: bs).map fun u : UInt8 => Value.int .u8 u.toNat)[j]? = some (.int .u8 u.toNat) := by rw [List.getElem?_map, hj]; rfl
    have hjl : j < (1 + bs.length) * 1 := by have := (List.getElem?_eq_some_iff.1 hj).1; simp at this; omega
    have e : cur.toList.take ((1 + bs.length) * 1) = (K :: bs).map fun u : UInt8 => Value.int .u8 u.toNat := by rw [ht]; rfl
    rw [← e, List.getElem?_take, if_pos hjl, Array.getElem?_toList] at hj2
    rw [Nat.zero_add]
    exact hj2

end Go.Proofs.YtgcccihnlecpnaaGreatDoor
