/- A class's text, by plain lists: names, items, tails, classes. -/
import Derived.Test.YtnecafokkhhhhaaGreatDoorSpc
import Derived.Test.YtnecafokkhhhhaaGreatDoorNam
import Derived.Lib.CutLaws
namespace Go.Proofs.YtnecafokkhhhhaaGreatDoor
open Go Go.RowKit
def sWord : BitVec 256 := sAlnum ||| ofl [95]
def sXdigit : BitVec 256 := sDigit ||| (rng 97 102 ||| rng 65 70)
def sBlank : BitVec 256 := ofl [32, 9]
def sSpace : BitVec 256 := rng 9 13 ||| ofl [32]
def sPrint : BitVec 256 := rng 32 126
def sCntrl : BitVec 256 := rng 0 31 ||| ofl [127]
def sAny : BitVec 256 := ~~~0#256
/-- The set of a name. -/
def nmd (l : List UInt8) : Option (BitVec 256) :=
  if l = [100, 105, 103, 105, 116] then some sDigit else if l = [108, 111, 119, 101, 114] then some sLower else if l = [117, 112, 112, 101, 114] then some sUpper else
  if l = [97, 108, 112, 104, 97] then some sAlpha else if l = [97, 108, 110, 117, 109] then some sAlnum else if l = [119, 111, 114, 100] then some sWord else
  if l = [120, 100, 105, 103, 105, 116] then some sXdigit else if l = [98, 108, 97, 110, 107] then some sBlank else if l = [115, 112, 97, 99, 101] then some sSpace else
  if l = [112, 117, 110, 99, 116] then some sPunct else if l = [112, 114, 105, 110, 116] then some sPrint else if l = [99, 110, 116, 114, 108] then some sCntrl else
  if l = [97, 110, 121] then some sAny else none
/-- A named set between "[:" and ":]": its set, how many bytes it takes. -/
def nmq (l : List UInt8) : Sum Nat (BitVec 256 × Nat) :=
  match nmd (Lib.cut (l.drop 2) [58, 93]).1 with
  | none => .inl 0
  | some S => if (Lib.cut (l.drop 2) [58, 93]).2.2 then .inr (S, (Lib.cut (l.drop 2) [58, 93]).1.length + 4) else .inl 0
/-- An item. -/
def itm (f : List UInt8 → Nat × Nat) (l : List UInt8) : Sum Nat (BitVec 256 × Nat) := if Lib.hasPrefix l [91, 58] = true then nmq l else spq f l
/-- What ends the items. -/
def stp (l : List UInt8) : Bool := Lib.hasPrefix l [45, 45] || (Lib.hasPrefix l [38, 38] || Lib.hasPrefix l [93])
/-- The items of a class: the set, how many bytes they take. -/
def ims (f : List UInt8 → Nat × Nat) : Nat → List UInt8 → BitVec 256 → Nat → Sum Nat (BitVec 256 × Nat)
  | 0, _, _, k => .inl k
  | n + 1, l, S, k => if stp l = true then .inr (S, k) else match itm f l with
    | .inl d => .inl (k + d)
    | .inr (T, m) => ims f n (l.drop m) (S ||| T) (k + m)
mutual
/-- A class: its set, how many bytes it takes; or which error (true: too deep), how far behind its begin. -/
def cls (f : List UInt8 → Nat × Nat) : Nat → Nat → List UInt8 → Nat → Sum (Bool × Nat) (BitVec 256 × Nat)
  | 0, _, _, k => .inl (false, k)
  | n + 1, o, l, k => if Lib.hasPrefix l [91] = false then .inl (false, k) else if o = 40 then .inl (true, k) else
    if Lib.hasPrefix (l.drop 1) [94] = true then
      match ims f (l.length + 1) (l.drop 2) 0#256 0 with
      | .inl d => .inl (false, k + 2 + d)
      | .inr (S, m) => tls f n (o + 1) (~~~S) (l.drop (2 + m)) (k + 2 + m)
    else
      match ims f (l.length + 1) (l.drop 1) 0#256 0 with
      | .inl d => .inl (false, k + 1 + d)
      | .inr (S, m) => tls f n (o + 1) S (l.drop (1 + m)) (k + 1 + m)
/-- The tails of a class whose items are S. -/
def tls (f : List UInt8 → Nat × Nat) : Nat → Nat → BitVec 256 → List UInt8 → Nat → Sum (Bool × Nat) (BitVec 256 × Nat)
  | 0, _, _, _, k => .inl (false, k)
  | n + 1, o, S, l, k => if Lib.hasPrefix l [93] = true then .inr (S, k + 1) else
    if Lib.hasPrefix l [45, 45] = true then
      match cls f n o (l.drop 2) (k + 2) with
      | .inl x => .inl x
      | .inr (T, m) => tls f n o (S &&& ~~~T) (l.drop (m - k)) m
    else if Lib.hasPrefix l [38, 38] = true then
      match cls f n o (l.drop 2) (k + 2) with
      | .inl x => .inl x
      | .inr (T, m) => tls f n o (S &&& T) (l.drop (m - k)) m
    else .inl (false, k)
end
end Go.Proofs.YtnecafokkhhhhaaGreatDoor
