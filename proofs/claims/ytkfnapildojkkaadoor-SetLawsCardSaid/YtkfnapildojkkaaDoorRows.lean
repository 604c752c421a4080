/-
  NARROWER THAN 'FOR EVERY INPUT', by the rows' own cells (each row's printed sentence says how): SetExact: laid · SetBytes: laid · SetSpans: laid · SetLaws: laid · SetForms: laid · SetOrder: laid.
  DERIVED. THE GIVEN ROWS OF THIS SEAT. 6 by the template 'for every input the law returns true; each argument reads behind the call as it read before'; 0 by the template 'total and deterministic' (their statements: YtkfnapildojkkaaDoorTotals.lean).
  GIVEN WITH THE SEED: the statements are not yours to turn. If you find one false, say at which input.
  Laid BY PROGRAM, IN A SANDBOX (cutbox-rows.mjs): the forced cells as the released guide's own fill.sh prints them over the translation 29c7ae746e7c8ae2… (all of the seat's roots in one cut). By AI agents, Wed Nov 11 2026. No macro, syntax, notation, axiom, sorry.
-/
import Derived.Test.YtkfnapildojkkaaDoorChecked
import GoSem.Claim
import GoSem.ClaimJoined
import GoSem.ClaimMapViews
import Derived.JoinedTies
import Derived.KernelRfl
namespace Go.Proofs.YtkfnapildojkkaaDoor
/- THE CELL 'sum', in the pinned program and in every row, IS THE sha256 OF THE DUMP (.gsa) THAT YtkfnapildojkkaaDoorProg.lean LOADS. Nothing in Lean hashes anything: it is a label: what it is worth is what the hold of that sum in a sandbox is worth. -/
noncomputable def Tryd.pinned : Pinned := { name := "ytkfnapildojkkaadoor", sum := "29c7ae746e7c8ae24c811396a683efa6737546bff2345803d782cb92ab206c6f", checked := Tryd.checked }
namespace Rows
def none {H : Type} : Left H := { results := [], args := [] }

/- WHAT THE LISTED PACKAGE-LEVEL VARIABLES READ AS WHEN THE CALL BEGINS. Each datum BY PROGRAM (the guide's laid-datum.mjs) off the statement by which the dump's own 'gosem.cut.vars' lays the variable. In a bare row this is a premise. The card (YtkfnapildojkkaaDoorCards.lean) ties it to the program's text. -/
def laid_math_bits_deBruijn64tab {H : Type} : DataW H := .agg [.lit (.int .u8 0), .lit (.int .u8 1), .lit (.int .u8 56), .lit (.int .u8 2), .lit (.int .u8 57), .lit (.int .u8 49), .lit (.int .u8 28), .lit (.int .u8 3), .lit (.int .u8 61), .lit (.int .u8 58), .lit (.int .u8 42), .lit (.int .u8 50), .lit (.int .u8 38), .lit (.int .u8 29), .lit (.int .u8 17), .lit (.int .u8 4), .lit (.int .u8 62), .lit (.int .u8 47), .lit (.int .u8 59), .lit (.int .u8 36), .lit (.int .u8 45), .lit (.int .u8 43), .lit (.int .u8 51), .lit (.int .u8 22), .lit (.int .u8 53), .lit (.int .u8 39), .lit (.int .u8 33), .lit (.int .u8 30), .lit (.int .u8 24), .lit (.int .u8 18), .lit (.int .u8 12), .lit (.int .u8 5), .lit (.int .u8 63), .lit (.int .u8 55), .lit (.int .u8 48), .lit (.int .u8 27), .lit (.int .u8 60), .lit (.int .u8 41), .lit (.int .u8 37), .lit (.int .u8 16), .lit (.int .u8 46), .lit (.int .u8 35), .lit (.int .u8 44), .lit (.int .u8 21), .lit (.int .u8 52), .lit (.int .u8 32), .lit (.int .u8 23), .lit (.int .u8 11), .lit (.int .u8 54), .lit (.int .u8 26), .lit (.int .u8 40), .lit (.int .u8 15), .lit (.int .u8 34), .lit (.int .u8 20), .lit (.int .u8 31), .lit (.int .u8 10), .lit (.int .u8 25), .lit (.int .u8 14), .lit (.int .u8 19), .lit (.int .u8 9), .lit (.int .u8 13), .lit (.int .u8 8), .lit (.int .u8 7), .lit (.int .u8 6)]

/-- 'bolterlaw1.SetExact': WHATEVER THE INPUT: true; the input reads as it did. -/
def setExactSpec : ChangeSpec := { name := "setExact", fn := fun _ => fun
  | [d] => { results := [.lit (.bool true)], args := [d] }
  | _ => none }
def setExactRow : OpenClaim := { program := "ytkfnapildojkkaadoor", sum := "29c7ae746e7c8ae24c811396a683efa6737546bff2345803d782cb92ab206c6f", func := "bolter/bolterlaw1.SetExact", spec := "setExact", named := ["math/bits.deBruijn64tab"], apart := false, laid := [("math/bits.deBruijn64tab", laid_math_bits_deBruijn64tab)] }
def SetExactSaid : Prop := setExactRow.holds Tryd.pinned (OpenSpec.ofChange setExactSpec)

/-- ITS FALSE NEIGHBOUR: 'it returns false'. Refute it at one input. -/
def setExactWrong : ChangeSpec := { name := "setExact", fn := fun _ => fun
  | [d] => { results := [.lit (.bool false)], args := [d] }
  | _ => none }
def SetExactWrongFalsely : Prop := setExactRow.holds Tryd.pinned (OpenSpec.ofChange setExactWrong)

/-- 'bolterlaw1.SetBytes': WHATEVER THE INPUT: true; the input reads as it did. -/
def setBytesSpec : ChangeSpec := { name := "setBytes", fn := fun _ => fun
  | [d] => { results := [.lit (.bool true)], args := [d] }
  | _ => none }
def setBytesRow : OpenClaim := { program := "ytkfnapildojkkaadoor", sum := "29c7ae746e7c8ae24c811396a683efa6737546bff2345803d782cb92ab206c6f", func := "bolter/bolterlaw1.SetBytes", spec := "setBytes", named := ["math/bits.deBruijn64tab"], apart := false, laid := [("math/bits.deBruijn64tab", laid_math_bits_deBruijn64tab)] }
def SetBytesSaid : Prop := setBytesRow.holds Tryd.pinned (OpenSpec.ofChange setBytesSpec)

/-- ITS FALSE NEIGHBOUR: 'it returns false'. Refute it at one input. -/
def setBytesWrong : ChangeSpec := { name := "setBytes", fn := fun _ => fun
  | [d] => { results := [.lit (.bool false)], args := [d] }
  | _ => none }
def SetBytesWrongFalsely : Prop := setBytesRow.holds Tryd.pinned (OpenSpec.ofChange setBytesWrong)

/-- 'bolterlaw1.SetSpans': WHATEVER THE INPUT: true; the input reads as it did. -/
def setSpansSpec : ChangeSpec := { name := "setSpans", fn := fun _ => fun
  | [d] => { results := [.lit (.bool true)], args := [d] }
  | _ => none }
def setSpansRow : OpenClaim := { program := "ytkfnapildojkkaadoor", sum := "29c7ae746e7c8ae24c811396a683efa6737546bff2345803d782cb92ab206c6f", func := "bolter/bolterlaw1.SetSpans", spec := "setSpans", named := ["math/bits.deBruijn64tab"], apart := false, laid := [("math/bits.deBruijn64tab", laid_math_bits_deBruijn64tab)] }
def SetSpansSaid : Prop := setSpansRow.holds Tryd.pinned (OpenSpec.ofChange setSpansSpec)

/-- ITS FALSE NEIGHBOUR: 'it returns false'. Refute it at one input. -/
def setSpansWrong : ChangeSpec := { name := "setSpans", fn := fun _ => fun
  | [d] => { results := [.lit (.bool false)], args := [d] }
  | _ => none }
def SetSpansWrongFalsely : Prop := setSpansRow.holds Tryd.pinned (OpenSpec.ofChange setSpansWrong)

/-- 'bolterlaw1.SetLaws': WHATEVER THE INPUT: true; the input reads as it did. -/
def setLawsSpec : ChangeSpec := { name := "setLaws", fn := fun _ => fun
  | [d] => { results := [.lit (.bool true)], args := [d] }
  | _ => none }
def setLawsRow : OpenClaim := { program := "ytkfnapildojkkaadoor", sum := "29c7ae746e7c8ae24c811396a683efa6737546bff2345803d782cb92ab206c6f", func := "bolter/bolterlaw1.SetLaws", spec := "setLaws", named := ["math/bits.deBruijn64tab"], apart := false, laid := [("math/bits.deBruijn64tab", laid_math_bits_deBruijn64tab)] }
def SetLawsSaid : Prop := setLawsRow.holds Tryd.pinned (OpenSpec.ofChange setLawsSpec)

/-- ITS FALSE NEIGHBOUR: 'it returns false'. Refute it at one input. -/
def setLawsWrong : ChangeSpec := { name := "setLaws", fn := fun _ => fun
  | [d] => { results := [.lit (.bool false)], args := [d] }
  | _ => none }
def SetLawsWrongFalsely : Prop := setLawsRow.holds Tryd.pinned (OpenSpec.ofChange setLawsWrong)

/-- 'bolterlaw1.SetForms': WHATEVER THE INPUT: true; the input reads as it did. -/
def setFormsSpec : ChangeSpec := { name := "setForms", fn := fun _ => fun
  | [d] => { results := [.lit (.bool true)], args := [d] }
  | _ => none }
def setFormsRow : OpenClaim := { program := "ytkfnapildojkkaadoor", sum := "29c7ae746e7c8ae24c811396a683efa6737546bff2345803d782cb92ab206c6f", func := "bolter/bolterlaw1.SetForms", spec := "setForms", named := ["math/bits.deBruijn64tab"], apart := false, laid := [("math/bits.deBruijn64tab", laid_math_bits_deBruijn64tab)] }
def SetFormsSaid : Prop := setFormsRow.holds Tryd.pinned (OpenSpec.ofChange setFormsSpec)

/-- ITS FALSE NEIGHBOUR: 'it returns false'. Refute it at one input. -/
def setFormsWrong : ChangeSpec := { name := "setForms", fn := fun _ => fun
  | [d] => { results := [.lit (.bool false)], args := [d] }
  | _ => none }
def SetFormsWrongFalsely : Prop := setFormsRow.holds Tryd.pinned (OpenSpec.ofChange setFormsWrong)

/-- 'bolterlaw1.SetOrder': WHATEVER THE INPUT: true; the input reads as it did. -/
def setOrderSpec : ChangeSpec := { name := "setOrder", fn := fun _ => fun
  | [d] => { results := [.lit (.bool true)], args := [d] }
  | _ => none }
def setOrderRow : OpenClaim := { program := "ytkfnapildojkkaadoor", sum := "29c7ae746e7c8ae24c811396a683efa6737546bff2345803d782cb92ab206c6f", func := "bolter/bolterlaw1.SetOrder", spec := "setOrder", named := ["math/bits.deBruijn64tab"], apart := false, laid := [("math/bits.deBruijn64tab", laid_math_bits_deBruijn64tab)] }
def SetOrderSaid : Prop := setOrderRow.holds Tryd.pinned (OpenSpec.ofChange setOrderSpec)

/-- ITS FALSE NEIGHBOUR: 'it returns false'. Refute it at one input. -/
def setOrderWrong : ChangeSpec := { name := "setOrder", fn := fun _ => fun
  | [d] => { results := [.lit (.bool false)], args := [d] }
  | _ => none }
def SetOrderWrongFalsely : Prop := setOrderRow.holds Tryd.pinned (OpenSpec.ofChange setOrderWrong)

/- THE SECOND FORM. 'bulk': how many values and letters a reading holds, each counted each time it is reached (what is shared counts as often as it is met; a slice's spare places count too). A statement '..UptoSaid' is the law's where the arguments, and the package variables that the reading takes, are together of bulk at most 1048576: NARROWER than '..Said'. Prove '..Said' where nothing that the law and all that it calls make is longer than what came in: it says more and counts as full. Else prove '..UptoSaid'. A law counts once. -/
mutual
def uptoBulk {H : Type} : DataW H → Nat
  | .lit (.string bytes) => bytes.length + 1
  | .lit _ => 1
  | .nil => 1
  | .ptr d => uptoBulk d + 1
  | .slice elems spare => uptoBulkAll elems + uptoBulkAll spare + 1
  | .agg parts => uptoBulkAll parts + 1
  | .iface _ d => uptoBulk d + 1
  | .map entries => uptoBulkEntries entries + 1
  | .held _ => 1
def uptoBulkAll {H : Type} : List (DataW H) → Nat
  | [] => 0
  | d :: r => uptoBulk d + uptoBulkAll r
def uptoBulkEntries {H : Type} : List (Lit × DataW H) → Nat
  | [] => 0
  | x :: r => uptoBulkEntry x + uptoBulkEntries r
def uptoBulkEntry {H : Type} : Lit × DataW H → Nat
  | (.string bytes, d) => bytes.length + uptoBulk d + 1
  | (_, d) => uptoBulk d + 1
 end
def uptoSmall : (H : Type) → List (DataW H) → Bool := fun _ ds => decide (uptoBulkAll ds ≤ 1048576)
def OpenSpec.upto (s : _root_.Go.ChangeSpec) : _root_.Go.OpenSpec := { _root_.Go.OpenSpec.ofChange s with cond := some uptoSmall }

/-- 'bolterlaw1.SetExact', WHERE WHAT IT READS IS OF BULK AT MOST 1048576: true; the input reads as it did. -/
def setExactUptoRow : OpenClaim := { program := "ytkfnapildojkkaadoor", sum := "29c7ae746e7c8ae24c811396a683efa6737546bff2345803d782cb92ab206c6f", func := "bolter/bolterlaw1.SetExact", spec := "setExact", named := ["math/bits.deBruijn64tab"], apart := false, laid := [("math/bits.deBruijn64tab", laid_math_bits_deBruijn64tab)], narrowed := true }
def SetExactUptoSaid : Prop := setExactUptoRow.holds Tryd.pinned (OpenSpec.upto setExactSpec)

/-- 'bolterlaw1.SetBytes', WHERE WHAT IT READS IS OF BULK AT MOST 1048576: true; the input reads as it did. -/
def setBytesUptoRow : OpenClaim := { program := "ytkfnapildojkkaadoor", sum := "29c7ae746e7c8ae24c811396a683efa6737546bff2345803d782cb92ab206c6f", func := "bolter/bolterlaw1.SetBytes", spec := "setBytes", named := ["math/bits.deBruijn64tab"], apart := false, laid := [("math/bits.deBruijn64tab", laid_math_bits_deBruijn64tab)], narrowed := true }
def SetBytesUptoSaid : Prop := setBytesUptoRow.holds Tryd.pinned (OpenSpec.upto setBytesSpec)

/-- 'bolterlaw1.SetSpans', WHERE WHAT IT READS IS OF BULK AT MOST 1048576: true; the input reads as it did. -/
def setSpansUptoRow : OpenClaim := { program := "ytkfnapildojkkaadoor", sum := "29c7ae746e7c8ae24c811396a683efa6737546bff2345803d782cb92ab206c6f", func := "bolter/bolterlaw1.SetSpans", spec := "setSpans", named := ["math/bits.deBruijn64tab"], apart := false, laid := [("math/bits.deBruijn64tab", laid_math_bits_deBruijn64tab)], narrowed := true }
def SetSpansUptoSaid : Prop := setSpansUptoRow.holds Tryd.pinned (OpenSpec.upto setSpansSpec)

/-- 'bolterlaw1.SetLaws', WHERE WHAT IT READS IS OF BULK AT MOST 1048576: true; the input reads as it did. -/
def setLawsUptoRow : OpenClaim := { program := "ytkfnapildojkkaadoor", sum := "29c7ae746e7c8ae24c811396a683efa6737546bff2345803d782cb92ab206c6f", func := "bolter/bolterlaw1.SetLaws", spec := "setLaws", named := ["math/bits.deBruijn64tab"], apart := false, laid := [("math/bits.deBruijn64tab", laid_math_bits_deBruijn64tab)], narrowed := true }
def SetLawsUptoSaid : Prop := setLawsUptoRow.holds Tryd.pinned (OpenSpec.upto setLawsSpec)

/-- 'bolterlaw1.SetForms', WHERE WHAT IT READS IS OF BULK AT MOST 1048576: true; the input reads as it did. -/
def setFormsUptoRow : OpenClaim := { program := "ytkfnapildojkkaadoor", sum := "29c7ae746e7c8ae24c811396a683efa6737546bff2345803d782cb92ab206c6f", func := "bolter/bolterlaw1.SetForms", spec := "setForms", named := ["math/bits.deBruijn64tab"], apart := false, laid := [("math/bits.deBruijn64tab", laid_math_bits_deBruijn64tab)], narrowed := true }
def SetFormsUptoSaid : Prop := setFormsUptoRow.holds Tryd.pinned (OpenSpec.upto setFormsSpec)

/-- 'bolterlaw1.SetOrder', WHERE WHAT IT READS IS OF BULK AT MOST 1048576: true; the input reads as it did. -/
def setOrderUptoRow : OpenClaim := { program := "ytkfnapildojkkaadoor", sum := "29c7ae746e7c8ae24c811396a683efa6737546bff2345803d782cb92ab206c6f", func := "bolter/bolterlaw1.SetOrder", spec := "setOrder", named := ["math/bits.deBruijn64tab"], apart := false, laid := [("math/bits.deBruijn64tab", laid_math_bits_deBruijn64tab)], narrowed := true }
def SetOrderUptoSaid : Prop := setOrderUptoRow.holds Tryd.pinned (OpenSpec.upto setOrderSpec)

end Rows
end Go.Proofs.YtkfnapildojkkaaDoor
