/-
  DERIVED. GIVEN WITH THE SEED: THE CARDS: each row of YtgfbbblbglpccaaDoorRows.lean that lists a variable, with what it lists TIED to the program's text (the seventh form; the later family's looks); each row that meets fmt, with fmt's text TOLD by the authors' own Lean function (tested against real Go, not proved from fmt's source: count such statements apart). THE CARD IS WHAT COUNTS. Prove the row's statement (the work); the ties are given (YtgfbbblbglpccaaDoorTie.lean); close each card by the builder's one call (the guide's Derived/Test/ToyasCard.lean, 'card_holds'). Laid BY PROGRAM, IN A SANDBOX (cutbox-door.mjs). By AI agents, Wed Nov 11 2026. No macro, syntax, notation, axiom, sorry.
-/
import Derived.Test.YtgfbbblbglpccaaDoorRows
import GoSem.ClaimSeven
namespace Go.Proofs.YtgfbbblbglpccaaDoor
namespace Rows

/-- THE TIED CARD OF 'bolterlaw3.ClassWrites'. -/
def classWritesCard : Claim7 := { stood := { row := classWritesRow, standIns := [], harness := (true, "e598b5f95889d1b8f227a6dd6fc4f186e1c62bbdd5c6b5e1a4464b2b2ca69d78"), looks := true }, kinds := [], alts := [], laidByText := true, laidKinds := [.data, .data, .data, .sentinel, .sentinel, .sentinel, .sentinel], laidTests := true, laidLooks := .later }
def ClassWritesCardSaid : Prop := Claim7.holds Tryd.pinned (.plain (OpenSpec.ofChange classWritesSpec)) classWritesCard

/-- THE TIED CARD OF 'bolterlaw3.ClassBack'. -/
def classBackCard : Claim7 := { stood := { row := classBackRow, standIns := [], harness := (true, "e598b5f95889d1b8f227a6dd6fc4f186e1c62bbdd5c6b5e1a4464b2b2ca69d78"), looks := true }, kinds := [], alts := [], laidByText := true, laidKinds := [.data, .data, .data, .sentinel, .sentinel, .sentinel, .sentinel], laidTests := true, laidLooks := .later }
def ClassBackCardSaid : Prop := Claim7.holds Tryd.pinned (.plain (OpenSpec.ofChange classBackSpec)) classBackCard

/-- THE TIED CARD OF 'bolterlaw3.ClassAlgebra'. -/
def classAlgebraCard : Claim7 := { stood := { row := classAlgebraRow, standIns := [], harness := (true, "e598b5f95889d1b8f227a6dd6fc4f186e1c62bbdd5c6b5e1a4464b2b2ca69d78"), looks := true }, kinds := [], alts := [], laidByText := true, laidKinds := [.data, .data, .data, .sentinel, .sentinel, .sentinel, .sentinel], laidTests := true, laidLooks := .later }
def ClassAlgebraCardSaid : Prop := Claim7.holds Tryd.pinned (.plain (OpenSpec.ofChange classAlgebraSpec)) classAlgebraCard

/-- THE TIED CARD OF 'bolterlaw3.ClassEscapes'. -/
def classEscapesCard : Claim7 := { stood := { row := classEscapesRow, standIns := [], harness := (true, "e598b5f95889d1b8f227a6dd6fc4f186e1c62bbdd5c6b5e1a4464b2b2ca69d78"), looks := true }, kinds := [], alts := [], laidByText := true, laidKinds := [.data, .data, .data, .sentinel, .sentinel, .sentinel, .sentinel], laidTests := true, laidLooks := .later }
def ClassEscapesCardSaid : Prop := Claim7.holds Tryd.pinned (.plain (OpenSpec.ofChange classEscapesSpec)) classEscapesCard

/-- THE TIED CARD OF 'bolterlaw4.LexCovers'. -/
def lexCoversCard : Claim7 := { stood := { row := lexCoversRow, standIns := [], harness := (true, "e598b5f95889d1b8f227a6dd6fc4f186e1c62bbdd5c6b5e1a4464b2b2ca69d78"), looks := true }, kinds := [], alts := [], laidByText := true, laidKinds := [.data, .data, .data, .sentinel, .sentinel, .sentinel, .sentinel, .sentinel], laidTests := true, laidLooks := .later }
def LexCoversCardSaid : Prop := Claim7.holds Tryd.pinned (.plain (OpenSpec.ofChange lexCoversSpec)) lexCoversCard

/-- THE TIED CARD OF 'bolterlaw4.LexBlanks'. -/
def lexBlanksCard : Claim7 := { stood := { row := lexBlanksRow, standIns := [], harness := (true, "e598b5f95889d1b8f227a6dd6fc4f186e1c62bbdd5c6b5e1a4464b2b2ca69d78"), looks := true }, kinds := [], alts := [], laidByText := true, laidKinds := [.data, .data, .data, .sentinel, .sentinel, .sentinel, .sentinel, .sentinel], laidTests := true, laidLooks := .later }
def LexBlanksCardSaid : Prop := Claim7.holds Tryd.pinned (.plain (OpenSpec.ofChange lexBlanksSpec)) lexBlanksCard

/-- THE SECOND FORM's CARD OF 'bolterlaw3.ClassWrites'. -/
def classWritesUptoCard : Claim7 := { stood := { row := classWritesUptoRow, standIns := [], harness := (true, "e598b5f95889d1b8f227a6dd6fc4f186e1c62bbdd5c6b5e1a4464b2b2ca69d78"), looks := true }, kinds := [], alts := [], laidByText := true, laidKinds := [.data, .data, .data, .sentinel, .sentinel, .sentinel, .sentinel], laidTests := true, laidLooks := .later }
def ClassWritesUptoCardSaid : Prop := Claim7.holds Tryd.pinned (.plain (OpenSpec.upto classWritesSpec)) classWritesUptoCard

/-- THE SECOND FORM's CARD OF 'bolterlaw3.ClassBack'. -/
def classBackUptoCard : Claim7 := { stood := { row := classBackUptoRow, standIns := [], harness := (true, "e598b5f95889d1b8f227a6dd6fc4f186e1c62bbdd5c6b5e1a4464b2b2ca69d78"), looks := true }, kinds := [], alts := [], laidByText := true, laidKinds := [.data, .data, .data, .sentinel, .sentinel, .sentinel, .sentinel], laidTests := true, laidLooks := .later }
def ClassBackUptoCardSaid : Prop := Claim7.holds Tryd.pinned (.plain (OpenSpec.upto classBackSpec)) classBackUptoCard

/-- THE SECOND FORM's CARD OF 'bolterlaw3.ClassAlgebra'. -/
def classAlgebraUptoCard : Claim7 := { stood := { row := classAlgebraUptoRow, standIns := [], harness := (true, "e598b5f95889d1b8f227a6dd6fc4f186e1c62bbdd5c6b5e1a4464b2b2ca69d78"), looks := true }, kinds := [], alts := [], laidByText := true, laidKinds := [.data, .data, .data, .sentinel, .sentinel, .sentinel, .sentinel], laidTests := true, laidLooks := .later }
def ClassAlgebraUptoCardSaid : Prop := Claim7.holds Tryd.pinned (.plain (OpenSpec.upto classAlgebraSpec)) classAlgebraUptoCard

/-- THE SECOND FORM's CARD OF 'bolterlaw3.ClassEscapes'. -/
def classEscapesUptoCard : Claim7 := { stood := { row := classEscapesUptoRow, standIns := [], harness := (true, "e598b5f95889d1b8f227a6dd6fc4f186e1c62bbdd5c6b5e1a4464b2b2ca69d78"), looks := true }, kinds := [], alts := [], laidByText := true, laidKinds := [.data, .data, .data, .sentinel, .sentinel, .sentinel, .sentinel], laidTests := true, laidLooks := .later }
def ClassEscapesUptoCardSaid : Prop := Claim7.holds Tryd.pinned (.plain (OpenSpec.upto classEscapesSpec)) classEscapesUptoCard

/-- THE SECOND FORM's CARD OF 'bolterlaw4.LexCovers'. -/
def lexCoversUptoCard : Claim7 := { stood := { row := lexCoversUptoRow, standIns := [], harness := (true, "e598b5f95889d1b8f227a6dd6fc4f186e1c62bbdd5c6b5e1a4464b2b2ca69d78"), looks := true }, kinds := [], alts := [], laidByText := true, laidKinds := [.data, .data, .data, .sentinel, .sentinel, .sentinel, .sentinel, .sentinel], laidTests := true, laidLooks := .later }
def LexCoversUptoCardSaid : Prop := Claim7.holds Tryd.pinned (.plain (OpenSpec.upto lexCoversSpec)) lexCoversUptoCard

/-- THE SECOND FORM's CARD OF 'bolterlaw4.LexBlanks'. -/
def lexBlanksUptoCard : Claim7 := { stood := { row := lexBlanksUptoRow, standIns := [], harness := (true, "e598b5f95889d1b8f227a6dd6fc4f186e1c62bbdd5c6b5e1a4464b2b2ca69d78"), looks := true }, kinds := [], alts := [], laidByText := true, laidKinds := [.data, .data, .data, .sentinel, .sentinel, .sentinel, .sentinel, .sentinel], laidTests := true, laidLooks := .later }
def LexBlanksUptoCardSaid : Prop := Claim7.holds Tryd.pinned (.plain (OpenSpec.upto lexBlanksSpec)) lexBlanksUptoCard
end Rows
end Go.Proofs.YtgfbbblbglpccaaDoor
