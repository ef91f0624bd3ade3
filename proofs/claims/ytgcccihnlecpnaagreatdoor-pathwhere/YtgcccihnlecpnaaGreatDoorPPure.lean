/-
  Ways to what stands in values, as plain data: what is found, put and cut. No conditions beyond those stated.
-/
import Derived.Test.YtgcccihnlecpnaaGreatDoorVPure
import Derived.Lib.AtoiAllCases
import Derived.Lib.ItoaNum
namespace Go.Proofs.YtgcccihnlecpnaaGreatDoor

/-- the place in a list that a part names: a number's digits, just as they are written. -/
def placeOf (part : ByteArray) : Option Nat :=
  match Lib.atoiAll part.data.toList with
  | .ok k => if 0 ≤ k ∧ Lib.itoa k = part.data.toList then some k.toNat else none
  | _ => none
/-- what a part names. -/
def atP (v : V) (part : ByteArray) : Option V :=
  if v.kind = 5 then getF part v.fields
  else if v.kind = 4 then (placeOf part).bind fun i => v.list[i]?
  else none
def findP (v : V) : List ByteArray → Option V
  | [] => some v
  | p :: ps => (atP v p).bind fun x => findP x ps
def objE : V := ⟨5, 0, ⟨#[]⟩, [], []⟩
def putP (v : V) : List ByteArray → V → Option V
  | [], x => some x
  | p :: ps, x =>
    if v.kind = 5 then (putP ((getF p v.fields).getD objE) ps x).map fun y => { v with fields := setF p y v.fields }
    else if v.kind = 4 then (placeOf p).bind fun i => (v.list[i]?).bind fun z => (putP z ps x).map fun y => { v with list := v.list.set i y }
    else none
def cutP (v : V) : List ByteArray → Option V
  | [] => none
  | [p] => if v.kind = 5 ∧ (getF p v.fields).isSome then some { v with fields := delF p v.fields } else none
  | p :: q :: ps =>
    if v.kind = 5 then (getF p v.fields).bind fun z => (cutP z (q :: ps)).map fun y => { v with fields := setF p y v.fields }
    else if v.kind = 4 then (placeOf p).bind fun i => (v.list[i]?).bind fun z => (cutP z (q :: ps)).map fun y => { v with list := v.list.set i y }
    else none
end Go.Proofs.YtgcccihnlecpnaaGreatDoor
