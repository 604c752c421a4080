/- What the rows hand on: the errors of two codes. -/
import Derived.Test.YtnmdfhnfheekgaaDoorLen
import Derived.Test.YtnmdfhnfheekgaaDoorSent
import Derived.Test.YtnmdfhnfheekgaaDoorXo
import Derived.Test.YtnmdfhnfheekgaaDoorTie
import Derived.Test.YtnmdfhnfheekgaaDoorCards
import Derived.SevenTiedAt
import Derived.Deep.DeepWitnessRowRef
import Derived.Deep.DeepHandedRow
namespace Go.Proofs.YtnmdfhnfheekgaaDoor
open Go Go.ChangeShapes Go.WideShapes Go.ChangeAt Go.RowKit
theorem ag_of {W : World} {laid : List (String × DataW Unit)} (h : laidMet Tryd.prog laid W) (m1 : (snm.getD 13 "", sdat 13) ∈ laid) (m2 : (snm.getD 8 "", sdat 8) ∈ laid) : ∃ aA aT, Ag W aA aT := by
  obtain ⟨a, h1, _, _⟩ := laid_err h 13 (by omega) m1
  obtain ⟨b, h2, _, h3⟩ := laid_err h 8 (by omega) m2
  exact ⟨a, b, h1, h2, World.block_lt_of_cell? W ⟨_, 0, none⟩ h1, World.block_lt_of_cell? W ⟨_, 0, none⟩ h2, h3⟩
end Go.Proofs.YtnmdfhnfheekgaaDoor
