/-
  DERIVED. GIVEN WITH THE SEED: THE CARDS: each row of YtniamfaiamgncaaDoorRows.lean that lists a variable, with what it lists TIED to the program's text (the seventh form; the later family's looks); each row that meets fmt, with fmt's text TOLD by the authors' own Lean function (tested against real Go, not proved from fmt's source: count such statements apart). THE CARD IS WHAT COUNTS. Prove the row's statement (the work); the ties are given (YtniamfaiamgncaaDoorTie.lean); close each card by the builder's one call (the guide's Derived/Test/ToyasCard.lean, 'card_holds'). Laid BY PROGRAM, IN A SANDBOX (cutbox-door.mjs). By AI agents, Wed Nov 11 2026. No macro, syntax, notation, axiom, sorry.
-/
import Derived.Test.YtniamfaiamgncaaDoorRows
import GoSem.ClaimSeven
namespace Go.Proofs.YtniamfaiamgncaaDoor
namespace Rows

/-- THE TIED CARD OF 'bolterlaw13.WitnessExact'. -/
def witnessExactCard : Claim7 := { stood := { row := witnessExactRow, standIns := [], harness := (true, "3721713ba3ee3e9d9d799fbe4b03d3b475bec48529e1d5172c8fcdc73de9413f"), looks := true }, kinds := [], alts := [], laidByText := true, laidKinds := [.handle, .sentinel, .sentinel, .sentinel, .sentinel, .sentinel, .sentinel, .sentinel, .sentinel, .sentinel, .sentinel, .sentinel, .sentinel, .sentinel, .sentinel, .sentinel, .sentinel], laidTests := true, laidLooks := .later }
def WitnessExactCardSaid : Prop := Claim7.holds Tryd.pinned (.plain (OpenSpec.ofChange witnessExactSpec)) witnessExactCard

/-- THE TIED CARD OF 'bolterlaw13.WitnessWords'. -/
def witnessWordsCard : Claim7 := { stood := { row := witnessWordsRow, standIns := [], harness := (true, "3721713ba3ee3e9d9d799fbe4b03d3b475bec48529e1d5172c8fcdc73de9413f"), looks := true }, kinds := [], alts := [], laidByText := true, laidKinds := [.sentinel], laidTests := true, laidLooks := .later }
def WitnessWordsCardSaid : Prop := Claim7.holds Tryd.pinned (.plain (OpenSpec.ofChange witnessWordsSpec)) witnessWordsCard

/-- THE TIED CARD OF 'bolterlaw13.WitnessFirst'. -/
def witnessFirstCard : Claim7 := { stood := { row := witnessFirstRow, standIns := [], harness := (true, "3721713ba3ee3e9d9d799fbe4b03d3b475bec48529e1d5172c8fcdc73de9413f"), looks := true }, kinds := [], alts := [], laidByText := true, laidKinds := [.sentinel], laidTests := true, laidLooks := .later }
def WitnessFirstCardSaid : Prop := Claim7.holds Tryd.pinned (.plain (OpenSpec.ofChange witnessFirstSpec)) witnessFirstCard

/-- THE TIED CARD OF 'bolterlaw13.WitnessClasses'. -/
def witnessClassesCard : Claim7 := { stood := { row := witnessClassesRow, standIns := [], harness := (true, "3721713ba3ee3e9d9d799fbe4b03d3b475bec48529e1d5172c8fcdc73de9413f"), looks := true }, kinds := [], alts := [], laidByText := true, laidKinds := [.sentinel], laidTests := true, laidLooks := .later }
def WitnessClassesCardSaid : Prop := Claim7.holds Tryd.pinned (.plain (OpenSpec.ofChange witnessClassesSpec)) witnessClassesCard

/-- THE TIED CARD OF 'bolterlaw14.CensusExact'. -/
def censusExactCard : Claim7 := { stood := { row := censusExactRow, standIns := [], harness := (true, "3721713ba3ee3e9d9d799fbe4b03d3b475bec48529e1d5172c8fcdc73de9413f"), looks := true }, kinds := [], alts := [], laidByText := true, laidKinds := [.handle, .sentinel, .sentinel, .sentinel, .sentinel, .sentinel, .sentinel, .sentinel, .sentinel, .sentinel, .sentinel, .sentinel, .sentinel, .sentinel, .sentinel, .sentinel, .sentinel], laidTests := true, laidLooks := .later }
def CensusExactCardSaid : Prop := Claim7.holds Tryd.pinned (.plain (OpenSpec.ofChange censusExactSpec)) censusExactCard

/-- THE TIED CARD OF 'bolterlaw14.CensusSums'. -/
def censusSumsCard : Claim7 := { stood := { row := censusSumsRow, standIns := [], harness := (true, "3721713ba3ee3e9d9d799fbe4b03d3b475bec48529e1d5172c8fcdc73de9413f"), looks := true }, kinds := [], alts := [], laidByText := true, laidKinds := [.sentinel], laidTests := true, laidLooks := .later }
def CensusSumsCardSaid : Prop := Claim7.holds Tryd.pinned (.plain (OpenSpec.ofChange censusSumsSpec)) censusSumsCard

/-- THE TIED CARD OF 'bolterlaw14.CensusBack'. -/
def censusBackCard : Claim7 := { stood := { row := censusBackRow, standIns := [], harness := (true, "3721713ba3ee3e9d9d799fbe4b03d3b475bec48529e1d5172c8fcdc73de9413f"), looks := true }, kinds := [], alts := [], laidByText := true, laidKinds := [.sentinel], laidTests := true, laidLooks := .later }
def CensusBackCardSaid : Prop := Claim7.holds Tryd.pinned (.plain (OpenSpec.ofChange censusBackSpec)) censusBackCard

/-- THE TIED CARD OF 'bolterlaw14.CensusSteps'. -/
def censusStepsCard : Claim7 := { stood := { row := censusStepsRow, standIns := [], harness := (true, "3721713ba3ee3e9d9d799fbe4b03d3b475bec48529e1d5172c8fcdc73de9413f"), looks := true }, kinds := [], alts := [], laidByText := true, laidKinds := [.sentinel], laidTests := true, laidLooks := .later }
def CensusStepsCardSaid : Prop := Claim7.holds Tryd.pinned (.plain (OpenSpec.ofChange censusStepsSpec)) censusStepsCard

/-- THE TIED CARD OF 'bolterlaw14.CensusGreat'. -/
def censusGreatCard : Claim7 := { stood := { row := censusGreatRow, standIns := [], harness := (true, "3721713ba3ee3e9d9d799fbe4b03d3b475bec48529e1d5172c8fcdc73de9413f"), looks := true }, kinds := [], alts := [], laidByText := true, laidKinds := [.sentinel], laidTests := true, laidLooks := .later }
def CensusGreatCardSaid : Prop := Claim7.holds Tryd.pinned (.plain (OpenSpec.ofChange censusGreatSpec)) censusGreatCard

/-- THE SECOND FORM's CARD OF 'bolterlaw13.WitnessExact'. -/
def witnessExactUptoCard : Claim7 := { stood := { row := witnessExactUptoRow, standIns := [], harness := (true, "3721713ba3ee3e9d9d799fbe4b03d3b475bec48529e1d5172c8fcdc73de9413f"), looks := true }, kinds := [], alts := [], laidByText := true, laidKinds := [.handle, .sentinel, .sentinel, .sentinel, .sentinel, .sentinel, .sentinel, .sentinel, .sentinel, .sentinel, .sentinel, .sentinel, .sentinel, .sentinel, .sentinel, .sentinel, .sentinel], laidTests := true, laidLooks := .later }
def WitnessExactUptoCardSaid : Prop := Claim7.holds Tryd.pinned (.plain (OpenSpec.upto witnessExactSpec)) witnessExactUptoCard

/-- THE SECOND FORM's CARD OF 'bolterlaw13.WitnessWords'. -/
def witnessWordsUptoCard : Claim7 := { stood := { row := witnessWordsUptoRow, standIns := [], harness := (true, "3721713ba3ee3e9d9d799fbe4b03d3b475bec48529e1d5172c8fcdc73de9413f"), looks := true }, kinds := [], alts := [], laidByText := true, laidKinds := [.sentinel], laidTests := true, laidLooks := .later }
def WitnessWordsUptoCardSaid : Prop := Claim7.holds Tryd.pinned (.plain (OpenSpec.upto witnessWordsSpec)) witnessWordsUptoCard

/-- THE SECOND FORM's CARD OF 'bolterlaw13.WitnessFirst'. -/
def witnessFirstUptoCard : Claim7 := { stood := { row := witnessFirstUptoRow, standIns := [], harness := (true, "3721713ba3ee3e9d9d799fbe4b03d3b475bec48529e1d5172c8fcdc73de9413f"), looks := true }, kinds := [], alts := [], laidByText := true, laidKinds := [.sentinel], laidTests := true, laidLooks := .later }
def WitnessFirstUptoCardSaid : Prop := Claim7.holds Tryd.pinned (.plain (OpenSpec.upto witnessFirstSpec)) witnessFirstUptoCard

/-- THE SECOND FORM's CARD OF 'bolterlaw13.WitnessClasses'. -/
def witnessClassesUptoCard : Claim7 := { stood := { row := witnessClassesUptoRow, standIns := [], harness := (true, "3721713ba3ee3e9d9d799fbe4b03d3b475bec48529e1d5172c8fcdc73de9413f"), looks := true }, kinds := [], alts := [], laidByText := true, laidKinds := [.sentinel], laidTests := true, laidLooks := .later }
def WitnessClassesUptoCardSaid : Prop := Claim7.holds Tryd.pinned (.plain (OpenSpec.upto witnessClassesSpec)) witnessClassesUptoCard

/-- THE SECOND FORM's CARD OF 'bolterlaw14.CensusExact'. -/
def censusExactUptoCard : Claim7 := { stood := { row := censusExactUptoRow, standIns := [], harness := (true, "3721713ba3ee3e9d9d799fbe4b03d3b475bec48529e1d5172c8fcdc73de9413f"), looks := true }, kinds := [], alts := [], laidByText := true, laidKinds := [.handle, .sentinel, .sentinel, .sentinel, .sentinel, .sentinel, .sentinel, .sentinel, .sentinel, .sentinel, .sentinel, .sentinel, .sentinel, .sentinel, .sentinel, .sentinel, .sentinel], laidTests := true, laidLooks := .later }
def CensusExactUptoCardSaid : Prop := Claim7.holds Tryd.pinned (.plain (OpenSpec.upto censusExactSpec)) censusExactUptoCard

/-- THE SECOND FORM's CARD OF 'bolterlaw14.CensusSums'. -/
def censusSumsUptoCard : Claim7 := { stood := { row := censusSumsUptoRow, standIns := [], harness := (true, "3721713ba3ee3e9d9d799fbe4b03d3b475bec48529e1d5172c8fcdc73de9413f"), looks := true }, kinds := [], alts := [], laidByText := true, laidKinds := [.sentinel], laidTests := true, laidLooks := .later }
def CensusSumsUptoCardSaid : Prop := Claim7.holds Tryd.pinned (.plain (OpenSpec.upto censusSumsSpec)) censusSumsUptoCard

/-- THE SECOND FORM's CARD OF 'bolterlaw14.CensusBack'. -/
def censusBackUptoCard : Claim7 := { stood := { row := censusBackUptoRow, standIns := [], harness := (true, "3721713ba3ee3e9d9d799fbe4b03d3b475bec48529e1d5172c8fcdc73de9413f"), looks := true }, kinds := [], alts := [], laidByText := true, laidKinds := [.sentinel], laidTests := true, laidLooks := .later }
def CensusBackUptoCardSaid : Prop := Claim7.holds Tryd.pinned (.plain (OpenSpec.upto censusBackSpec)) censusBackUptoCard

/-- THE SECOND FORM's CARD OF 'bolterlaw14.CensusSteps'. -/
def censusStepsUptoCard : Claim7 := { stood := { row := censusStepsUptoRow, standIns := [], harness := (true, "3721713ba3ee3e9d9d799fbe4b03d3b475bec48529e1d5172c8fcdc73de9413f"), looks := true }, kinds := [], alts := [], laidByText := true, laidKinds := [.sentinel], laidTests := true, laidLooks := .later }
def CensusStepsUptoCardSaid : Prop := Claim7.holds Tryd.pinned (.plain (OpenSpec.upto censusStepsSpec)) censusStepsUptoCard

/-- THE SECOND FORM's CARD OF 'bolterlaw14.CensusGreat'. -/
def censusGreatUptoCard : Claim7 := { stood := { row := censusGreatUptoRow, standIns := [], harness := (true, "3721713ba3ee3e9d9d799fbe4b03d3b475bec48529e1d5172c8fcdc73de9413f"), looks := true }, kinds := [], alts := [], laidByText := true, laidKinds := [.sentinel], laidTests := true, laidLooks := .later }
def CensusGreatUptoCardSaid : Prop := Claim7.holds Tryd.pinned (.plain (OpenSpec.upto censusGreatSpec)) censusGreatUptoCard
end Rows
end Go.Proofs.YtniamfaiamgncaaDoor
