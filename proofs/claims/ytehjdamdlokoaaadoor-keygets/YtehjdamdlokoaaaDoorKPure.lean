/-
  Keys as plain data: what a value's key is. No conditions beyond those stated.
-/
import Derived.Test.YtehjdamdlokoaaaDoorVPure
namespace Go.Proofs.YtehjdamdlokoaaaDoor

/-- a byte as it is written. -/
def wr1 (c : UInt8) : List UInt8 := if c = 0 then [0, 255] else [c]
/-- bytes, written. -/
def writtenL (l : List UInt8) : List UInt8 := l.flatMap wr1 ++ [0, 1]
/-- an Int with its highest bit turned. -/
def turnN (n : Int) : Nat := (n + 9223372036854775808).toNat
/-- eight bytes, the highest first. -/
def eight (m : Nat) : List UInt8 := [UInt8.ofNat (m / 72057594037927936), UInt8.ofNat (m / 281474976710656), UInt8.ofNat (m / 1099511627776), UInt8.ofNat (m / 4294967296), UInt8.ofNat (m / 16777216), UInt8.ofNat (m / 65536), UInt8.ofNat (m / 256), UInt8.ofNat m]
def intL (n : Int) : List UInt8 := eight (turnN n)
def fieldL (f : V → List UInt8) (p : ByteArray × V) : List UInt8 := 1 :: (writtenL p.1.data.toList ++ f p.2)
def tailV (f : V → List UInt8) (v : V) : List UInt8 :=
  if v.kind = 1 then [UInt8.ofNat v.num.toNat]
  else if v.kind = 2 then intL v.num
  else if v.kind = 3 then writtenL v.text.data.toList
  else if v.kind = 4 then v.list.flatMap f ++ [0]
  else if v.kind = 5 then v.fields.flatMap (fieldL f) ++ [0]
  else []
/-- a value's key, so deep. -/
def putV : Nat → V → List UInt8
  | 0, _ => []
  | n + 1, v => UInt8.ofNat (v.kind.toNat + 1) :: tailV (putV n) v
end Go.Proofs.YtehjdamdlokoaaaDoor
