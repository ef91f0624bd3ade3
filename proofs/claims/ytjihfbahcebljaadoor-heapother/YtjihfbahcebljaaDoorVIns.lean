/-
  slices.Insert at fields by its contract: a slice without room. No conditions beyond those stated.
-/
import Derived.Test.YtjihfbahcebljaaDoorVDel
import Derived.Lib.AppendZerosOnto
import Derived.Lib.SlBuf
namespace Go.Proofs.YtjihfbahcebljaaDoor
open Go.RowKit

theorem run_copy_rows (w : World) (ty g o dLen dCap : Nat) (a : Addr) (sLen sCap : Nat) (cur : Array Value) (cs : List Value)
    (hg : w.heap[g]? = some (.cells cur 75 (0, 0))) (hn : cs.length = Nat.min sLen dLen * 6)
    (hsrc : ∀ j v, cs[j]? = some v → w.cell? (a.add j) = some v) (hfit : o + cs.length ≤ cur.size) (h1 : ∀ v ∈ cs, v.oneCell' = true) :
    (Builtin.copy_ #[36, 36] ty #[.slice (some ⟨g, o, none⟩) dLen dCap, .slice (some a) sLen sCap]).run Tryd.prog w =
      .ok (goInt (Nat.min sLen dLen)) (w.setRow g (cur.toList.take o ++ cs ++ cur.toList.drop (o + cs.length)).toArray) := by
  obtain ⟨j0, hi0, hz0, hz1, hz2⟩ := info_parts infoF
  have hl := run_firstCells_some (P := Tryd.prog) w 6 (Nat.min sLen dLen) a sLen sCap cs hn hsrc
  have hst := run_storeCells_at Tryd.prog g o 75 cs 0 cur w hg (by simpa using hfit) h1
  simp only [Nat.add_zero] at hst
  simp [Builtin.copy_, run_underlying Tryd.underlying36, Builtin.lenOf, sizeOf, typeInfo, hi0, hz1, hl, hst]

theorem below_row {B g : Nat} {w0 w : World} (hb : Below B w0 w) (hBg : B ≤ g) (cs : Array Value) : Below B w0 (w.setRow g cs) :=
  ⟨hb.os, hb.tape, hb.output, by simp only [setRow_size]; exact hb.size, fun k hk => by rw [setRow_other w g k cs (by omega)]; exact hb.block k hk⟩

end Go.Proofs.YtjihfbahcebljaaDoor
