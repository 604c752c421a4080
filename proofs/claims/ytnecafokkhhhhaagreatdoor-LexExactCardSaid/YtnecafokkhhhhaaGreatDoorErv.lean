/- strconv's own error stands in its variable; what 'unescape' tells, as a premise. -/
import Derived.Test.YtnecafokkhhhhaaGreatDoorRdr
namespace Go.Proofs.YtnecafokkhhhhaaGreatDoor
open Go Go.RowKit
theorem drew_ext (w : World) (n : Nat) : Ext w (w.drewN n) := ⟨rfl, rfl, rfl, Nat.le_refl _, fun _ _ => rfl⟩
/-- strconv's own error stands in its variable. -/
def ErrV (w : World) : Prop := ∃ te pe, w.cell? ⟨18, 0, none⟩ = some (.iface te pe)
theorem ErrV.grown {w w' : World} {row : Option Nat} (h : ErrV w) (hg : w.grownBy w' row) (hne : row ≠ some 18) : ErrV w' := by
  obtain ⟨te, pe, h⟩ := h
  exact ⟨te, pe, cell_grown h hg hne⟩
theorem ErrV.ext {w w' : World} (h : ErrV w) (hx : Ext w w') : ErrV w' := h.grown (row := none) (grown_of_ext hx) (by simp)
theorem ErrV.moved {w w' : World} {r : Nat} (h : ErrV w) (hl : 18 < r) (hg : w.grownBy w' (some r)) : ErrV w' := h.grown hg (by simp; omega)
/-- What 'unescape' tells of the text behind a backslash, as a premise: its answer 'f', a plain function of the bytes. -/
def Unesc (f : List UInt8 → Nat × Nat) : Prop := ∀ (t : ByteArray) (w : World), ErrV w → t.size ≤ 4294967000 → Calls Tryz.prog 102 #[.string t] w fun e w2 => e = .returned (.tuple #[.int .u8 (f t.data.toList).1, .int .i64 (f t.data.toList).2]) ∧ Ext w w2
/-- A char of a text: its byte, and how many bytes it takes; none: it's refused. -/
def chr (f : List UInt8 → Nat × Nat) (m : List UInt8) : List UInt8 → Option (Nat × Nat)
  | [] => none
  | c :: l => if c = 92 then (if (f l).2 = 0 then none else some ((f l).1, (f l).2 + 1)) else if c ∈ m then none else some (c.toNat, 1)
/-- What 'char' answers, by 'chr'. -/
def ChrEnd (w w' : World) (r : Nat) (s : ByteArray) (i : Nat) (es : Addr) (e : Ending) : Option (Nat × Nat) → Prop
  | none => ∃ v, e = .returned (.tuple #[.int .u8 0, v]) ∧ Placed w' v es i ∧ Ext w w'
  | some (b, n) => e = .returned (.tuple #[.int .u8 b, .nilIface]) ∧ Moved w w' r s (i + n)
end Go.Proofs.YtnecafokkhhhhaaGreatDoor
