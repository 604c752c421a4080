/- What the door's rows hand on: the table, the errors. -/
import Derived.Test.YtnecafokkhhhhaaDoorSnc
import Derived.Test.YtnecafokkhhhhaaDoorTie
import Derived.Test.YtnecafokkhhhhaaDoorCards
import Derived.SevenTiedAt
import Derived.Deep.DeepWitnessRowRef
import Derived.Deep.DeepHandedRow
namespace Go.Proofs.YtnecafokkhhhhaaDoor
open Go Go.ChangeShapes Go.WideShapes Go.ChangeAt Go.RowKit
theorem known_door {W : World} {laid : List (String × DataW Unit)} (h : laidMetH Tryd.prog laid W) (hp : laid.all (fun x => x.2.handleName?.isNone) = true) (hs : W.ShapedOpen Tryd.prog)
    (m0 : ("math/bits.deBruijn64tab", (Rows.laid_math_bits_deBruijn64tab : DataW Unit)) ∈ laid) (m1 : ("bolter/fault.ErrSyntax", (Rows.laid_bolter_fault_ErrSyntax : DataW Unit)) ∈ laid) (m2 : ("bolter/fault.ErrDeep", (Rows.laid_bolter_fault_ErrDeep : DataW Unit)) ∈ laid) (m3 : ("strconv.ErrSyntax", (Rows.laid_strconv_ErrSyntax : DataW Unit)) ∈ laid) :
    Tab W ∧ ∃ es ed, Kn W es ed := by
  rw [MakeChecks.laidMetH_plain _ _ _ hp] at h
  exact ⟨laid_tab h m0, known_of h hs m1 m2 m3⟩
end Go.Proofs.YtnecafokkhhhhaaDoor
