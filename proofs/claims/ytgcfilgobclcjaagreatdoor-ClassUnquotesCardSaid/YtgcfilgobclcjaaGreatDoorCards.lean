/-
  DERIVED. GIVEN WITH THE SEED: THE CARDS: each row of YtgcfilgobclcjaaGreatDoorRows.lean that lists a variable, with what it lists TIED to the program's text (the seventh form; the later family's looks); each row that meets fmt, with fmt's text TOLD by the authors' own Lean function (tested against real Go, not proved from fmt's source: count such statements apart). THE CARD IS WHAT COUNTS. Prove the row's statement (the work); the ties are given (YtgcfilgobclcjaaGreatDoorTie.lean); close each card by the builder's one call (the guide's Derived/Test/ToyasCard.lean, 'card_holds'). Laid BY PROGRAM, IN A SANDBOX (cutbox-door.mjs). By AI agents, Wed Nov 11 2026. No macro, syntax, notation, axiom, sorry.
-/
import Derived.Test.YtgcfilgobclcjaaGreatDoorRows
import GoSem.ClaimSeven
namespace Go.Proofs.YtgcfilgobclcjaaGreatDoor
namespace Rows

/-- THE TIED CARD OF 'bolterlaw3.ClassReads'. -/
def classReadsCard : Claim7 := { stood := { row := classReadsRow, standIns := [], harness := (true, "1e494d64df4758fa2fa3cc2039f07a14281acccc336f8dab7deb1b3ccf3282e9"), looks := true }, kinds := [], alts := [], laidByText := true, laidKinds := [.data, .data, .data, .handle, .sentinel, .sentinel, .sentinel, .sentinel, .sentinel, .sentinel, .sentinel, .sentinel, .sentinel, .sentinel, .sentinel, .sentinel, .sentinel, .sentinel, .sentinel, .sentinel, .sentinel, .sentinel], laidTests := true, laidLooks := .later }
def ClassReadsCardSaid : Prop := Claim7.holds Tryz.pinned (.plain (OpenSpec.ofChange classReadsSpec)) classReadsCard

/-- THE TIED CARD OF 'bolterlaw3.ClassUnquotes'. -/
def classUnquotesCard : Claim7 := { stood := { row := classUnquotesRow, standIns := [], harness := (true, "1e494d64df4758fa2fa3cc2039f07a14281acccc336f8dab7deb1b3ccf3282e9"), looks := true }, kinds := [], alts := [], laidByText := true, laidKinds := [.data, .data, .data, .handle, .sentinel, .sentinel, .sentinel, .sentinel, .sentinel, .sentinel, .sentinel, .sentinel, .sentinel, .sentinel, .sentinel, .sentinel, .sentinel, .sentinel, .sentinel, .sentinel, .sentinel, .sentinel], laidTests := true, laidLooks := .later }
def ClassUnquotesCardSaid : Prop := Claim7.holds Tryz.pinned (.plain (OpenSpec.ofChange classUnquotesSpec)) classUnquotesCard

/-- THE TIED CARD OF 'bolterlaw3.ClassMoves'. -/
def classMovesCard : Claim7 := { stood := { row := classMovesRow, standIns := [], harness := (true, "1e494d64df4758fa2fa3cc2039f07a14281acccc336f8dab7deb1b3ccf3282e9"), looks := true }, kinds := [], alts := [], laidByText := true, laidKinds := [.data, .data, .data, .handle, .sentinel, .sentinel, .sentinel, .sentinel, .sentinel, .sentinel, .sentinel, .sentinel, .sentinel, .sentinel, .sentinel, .sentinel, .sentinel, .sentinel, .sentinel, .sentinel, .sentinel, .sentinel], laidTests := true, laidLooks := .later }
def ClassMovesCardSaid : Prop := Claim7.holds Tryz.pinned (.plain (OpenSpec.ofChange classMovesSpec)) classMovesCard

/-- THE TIED CARD OF 'bolterlaw3.ClassNames'. -/
def classNamesCard : Claim7 := { stood := { row := classNamesRow, standIns := [], harness := (true, "1e494d64df4758fa2fa3cc2039f07a14281acccc336f8dab7deb1b3ccf3282e9"), looks := true }, kinds := [], alts := [], laidByText := true, laidKinds := [.data, .data, .data, .handle, .sentinel, .sentinel, .sentinel, .sentinel, .sentinel, .sentinel, .sentinel, .sentinel, .sentinel, .sentinel, .sentinel, .sentinel, .sentinel, .sentinel, .sentinel, .sentinel, .sentinel, .sentinel], laidTests := true, laidLooks := .later }
def ClassNamesCardSaid : Prop := Claim7.holds Tryz.pinned (.plain (OpenSpec.ofChange classNamesSpec)) classNamesCard

/-- THE TIED CARD OF 'bolterlaw3.ClassDeep'. -/
def classDeepCard : Claim7 := { stood := { row := classDeepRow, standIns := [], harness := (true, "1e494d64df4758fa2fa3cc2039f07a14281acccc336f8dab7deb1b3ccf3282e9"), looks := true }, kinds := [], alts := [], laidByText := true, laidKinds := [.data, .data, .data, .handle, .sentinel, .sentinel, .sentinel, .sentinel, .sentinel, .sentinel, .sentinel, .sentinel, .sentinel, .sentinel, .sentinel, .sentinel, .sentinel, .sentinel, .sentinel, .sentinel, .sentinel, .sentinel], laidTests := true, laidLooks := .later }
def ClassDeepCardSaid : Prop := Claim7.holds Tryz.pinned (.plain (OpenSpec.ofChange classDeepSpec)) classDeepCard

/-- THE SECOND FORM's CARD OF 'bolterlaw3.ClassReads'. -/
def classReadsUptoCard : Claim7 := { stood := { row := classReadsUptoRow, standIns := [], harness := (true, "1e494d64df4758fa2fa3cc2039f07a14281acccc336f8dab7deb1b3ccf3282e9"), looks := true }, kinds := [], alts := [], laidByText := true, laidKinds := [.data, .data, .data, .handle, .sentinel, .sentinel, .sentinel, .sentinel, .sentinel, .sentinel, .sentinel, .sentinel, .sentinel, .sentinel, .sentinel, .sentinel, .sentinel, .sentinel, .sentinel, .sentinel, .sentinel, .sentinel], laidTests := true, laidLooks := .later }
def ClassReadsUptoCardSaid : Prop := Claim7.holds Tryz.pinned (.plain (OpenSpec.upto classReadsSpec)) classReadsUptoCard

/-- THE SECOND FORM's CARD OF 'bolterlaw3.ClassUnquotes'. -/
def classUnquotesUptoCard : Claim7 := { stood := { row := classUnquotesUptoRow, standIns := [], harness := (true, "1e494d64df4758fa2fa3cc2039f07a14281acccc336f8dab7deb1b3ccf3282e9"), looks := true }, kinds := [], alts := [], laidByText := true, laidKinds := [.data, .data, .data, .handle, .sentinel, .sentinel, .sentinel, .sentinel, .sentinel, .sentinel, .sentinel, .sentinel, .sentinel, .sentinel, .sentinel, .sentinel, .sentinel, .sentinel, .sentinel, .sentinel, .sentinel, .sentinel], laidTests := true, laidLooks := .later }
def ClassUnquotesUptoCardSaid : Prop := Claim7.holds Tryz.pinned (.plain (OpenSpec.upto classUnquotesSpec)) classUnquotesUptoCard

/-- THE SECOND FORM's CARD OF 'bolterlaw3.ClassMoves'. -/
def classMovesUptoCard : Claim7 := { stood := { row := classMovesUptoRow, standIns := [], harness := (true, "1e494d64df4758fa2fa3cc2039f07a14281acccc336f8dab7deb1b3ccf3282e9"), looks := true }, kinds := [], alts := [], laidByText := true, laidKinds := [.data, .data, .data, .handle, .sentinel, .sentinel, .sentinel, .sentinel, .sentinel, .sentinel, .sentinel, .sentinel, .sentinel, .sentinel, .sentinel, .sentinel, .sentinel, .sentinel, .sentinel, .sentinel, .sentinel, .sentinel], laidTests := true, laidLooks := .later }
def ClassMovesUptoCardSaid : Prop := Claim7.holds Tryz.pinned (.plain (OpenSpec.upto classMovesSpec)) classMovesUptoCard

/-- THE SECOND FORM's CARD OF 'bolterlaw3.ClassNames'. -/
def classNamesUptoCard : Claim7 := { stood := { row := classNamesUptoRow, standIns := [], harness := (true, "1e494d64df4758fa2fa3cc2039f07a14281acccc336f8dab7deb1b3ccf3282e9"), looks := true }, kinds := [], alts := [], laidByText := true, laidKinds := [.data, .data, .data, .handle, .sentinel, .sentinel, .sentinel, .sentinel, .sentinel, .sentinel, .sentinel, .sentinel, .sentinel, .sentinel, .sentinel, .sentinel, .sentinel, .sentinel, .sentinel, .sentinel, .sentinel, .sentinel], laidTests := true, laidLooks := .later }
def ClassNamesUptoCardSaid : Prop := Claim7.holds Tryz.pinned (.plain (OpenSpec.upto classNamesSpec)) classNamesUptoCard

/-- THE SECOND FORM's CARD OF 'bolterlaw3.ClassDeep'. -/
def classDeepUptoCard : Claim7 := { stood := { row := classDeepUptoRow, standIns := [], harness := (true, "1e494d64df4758fa2fa3cc2039f07a14281acccc336f8dab7deb1b3ccf3282e9"), looks := true }, kinds := [], alts := [], laidByText := true, laidKinds := [.data, .data, .data, .handle, .sentinel, .sentinel, .sentinel, .sentinel, .sentinel, .sentinel, .sentinel, .sentinel, .sentinel, .sentinel, .sentinel, .sentinel, .sentinel, .sentinel, .sentinel, .sentinel, .sentinel, .sentinel], laidTests := true, laidLooks := .later }
def ClassDeepUptoCardSaid : Prop := Claim7.holds Tryz.pinned (.plain (OpenSpec.upto classDeepSpec)) classDeepUptoCard
end Rows
end Go.Proofs.YtgcfilgobclcjaaGreatDoor
