/-
  DERIVED. GIVEN WITH THE SEED: THE CARDS: each row of YtgcjclglhijchaaDoorRows.lean that lists a variable, with what it lists TIED to the program's text (the seventh form; the later family's looks); each row that meets fmt, with fmt's text TOLD by the authors' own Lean function (tested against real Go, not proved from fmt's source: count such statements apart). THE CARD IS WHAT COUNTS. Prove the row's statement (the work); the ties are given (YtgcjclglhijchaaDoorTie.lean); close each card by the builder's one call (the guide's Derived/Test/ToyasCard.lean, 'card_holds'). Laid BY PROGRAM, IN A SANDBOX (cutbox-door.mjs). By AI agents, Wed Nov 11 2026. No macro, syntax, notation, axiom, sorry.
-/
import Derived.Test.YtgcjclglhijchaaDoorRows
import GoSem.ClaimSeven
namespace Go.Proofs.YtgcjclglhijchaaDoor
namespace Rows

/-- THE TIED CARD OF 'bolterlaw15.RowsExact'. -/
def rowsExactCard : Claim7 := { stood := { row := rowsExactRow, standIns := [], harness := (true, "6c58715d09a9bb43fd6cb53fa18bf8f7b500051c34310a8cc7759bb95a9c53d8"), looks := true }, kinds := [], alts := [], laidByText := true, laidKinds := [.handle, .sentinel, .sentinel, .sentinel, .sentinel, .sentinel, .sentinel, .sentinel, .sentinel, .sentinel, .sentinel, .sentinel, .sentinel, .sentinel, .sentinel, .sentinel, .sentinel], laidTests := true, laidLooks := .later }
def RowsExactCardSaid : Prop := Claim7.holds Tryd.pinned (.plain (OpenSpec.ofChange rowsExactSpec)) rowsExactCard

/-- THE TIED CARD OF 'bolterlaw15.RowsChecks'. -/
def rowsChecksCard : Claim7 := { stood := { row := rowsChecksRow, standIns := [], harness := (true, "6c58715d09a9bb43fd6cb53fa18bf8f7b500051c34310a8cc7759bb95a9c53d8"), looks := true }, kinds := [], alts := [], laidByText := true, laidKinds := [.handle, .sentinel, .sentinel, .sentinel, .sentinel, .sentinel, .sentinel, .sentinel, .sentinel, .sentinel, .sentinel, .sentinel, .sentinel, .sentinel, .sentinel, .sentinel, .sentinel], laidTests := true, laidLooks := .later }
def RowsChecksCardSaid : Prop := Claim7.holds Tryd.pinned (.plain (OpenSpec.ofChange rowsChecksSpec)) rowsChecksCard

/-- THE TIED CARD OF 'bolterlaw15.RowsClasses'. -/
def rowsClassesCard : Claim7 := { stood := { row := rowsClassesRow, standIns := [], harness := (true, "6c58715d09a9bb43fd6cb53fa18bf8f7b500051c34310a8cc7759bb95a9c53d8"), looks := true }, kinds := [], alts := [], laidByText := true, laidKinds := [.sentinel], laidTests := true, laidLooks := .later }
def RowsClassesCardSaid : Prop := Claim7.holds Tryd.pinned (.plain (OpenSpec.ofChange rowsClassesSpec)) rowsClassesCard

/-- THE TIED CARD OF 'bolterlaw15.RowsApart'. -/
def rowsApartCard : Claim7 := { stood := { row := rowsApartRow, standIns := [], harness := (true, "6c58715d09a9bb43fd6cb53fa18bf8f7b500051c34310a8cc7759bb95a9c53d8"), looks := true }, kinds := [], alts := [], laidByText := true, laidKinds := [.sentinel], laidTests := true, laidLooks := .later }
def RowsApartCardSaid : Prop := Claim7.holds Tryd.pinned (.plain (OpenSpec.ofChange rowsApartSpec)) rowsApartCard

/-- THE TIED CARD OF 'bolterlaw15.RowsRuns'. -/
def rowsRunsCard : Claim7 := { stood := { row := rowsRunsRow, standIns := [], harness := (true, "6c58715d09a9bb43fd6cb53fa18bf8f7b500051c34310a8cc7759bb95a9c53d8"), looks := true }, kinds := [], alts := [], laidByText := true, laidKinds := [.sentinel], laidTests := true, laidLooks := .later }
def RowsRunsCardSaid : Prop := Claim7.holds Tryd.pinned (.plain (OpenSpec.ofChange rowsRunsSpec)) rowsRunsCard

/-- THE SECOND FORM's CARD OF 'bolterlaw15.RowsExact'. -/
def rowsExactUptoCard : Claim7 := { stood := { row := rowsExactUptoRow, standIns := [], harness := (true, "6c58715d09a9bb43fd6cb53fa18bf8f7b500051c34310a8cc7759bb95a9c53d8"), looks := true }, kinds := [], alts := [], laidByText := true, laidKinds := [.handle, .sentinel, .sentinel, .sentinel, .sentinel, .sentinel, .sentinel, .sentinel, .sentinel, .sentinel, .sentinel, .sentinel, .sentinel, .sentinel, .sentinel, .sentinel, .sentinel], laidTests := true, laidLooks := .later }
def RowsExactUptoCardSaid : Prop := Claim7.holds Tryd.pinned (.plain (OpenSpec.upto rowsExactSpec)) rowsExactUptoCard

/-- THE SECOND FORM's CARD OF 'bolterlaw15.RowsChecks'. -/
def rowsChecksUptoCard : Claim7 := { stood := { row := rowsChecksUptoRow, standIns := [], harness := (true, "6c58715d09a9bb43fd6cb53fa18bf8f7b500051c34310a8cc7759bb95a9c53d8"), looks := true }, kinds := [], alts := [], laidByText := true, laidKinds := [.handle, .sentinel, .sentinel, .sentinel, .sentinel, .sentinel, .sentinel, .sentinel, .sentinel, .sentinel, .sentinel, .sentinel, .sentinel, .sentinel, .sentinel, .sentinel, .sentinel], laidTests := true, laidLooks := .later }
def RowsChecksUptoCardSaid : Prop := Claim7.holds Tryd.pinned (.plain (OpenSpec.upto rowsChecksSpec)) rowsChecksUptoCard

/-- THE SECOND FORM's CARD OF 'bolterlaw15.RowsClasses'. -/
def rowsClassesUptoCard : Claim7 := { stood := { row := rowsClassesUptoRow, standIns := [], harness := (true, "6c58715d09a9bb43fd6cb53fa18bf8f7b500051c34310a8cc7759bb95a9c53d8"), looks := true }, kinds := [], alts := [], laidByText := true, laidKinds := [.sentinel], laidTests := true, laidLooks := .later }
def RowsClassesUptoCardSaid : Prop := Claim7.holds Tryd.pinned (.plain (OpenSpec.upto rowsClassesSpec)) rowsClassesUptoCard

/-- THE SECOND FORM's CARD OF 'bolterlaw15.RowsApart'. -/
def rowsApartUptoCard : Claim7 := { stood := { row := rowsApartUptoRow, standIns := [], harness := (true, "6c58715d09a9bb43fd6cb53fa18bf8f7b500051c34310a8cc7759bb95a9c53d8"), looks := true }, kinds := [], alts := [], laidByText := true, laidKinds := [.sentinel], laidTests := true, laidLooks := .later }
def RowsApartUptoCardSaid : Prop := Claim7.holds Tryd.pinned (.plain (OpenSpec.upto rowsApartSpec)) rowsApartUptoCard

/-- THE SECOND FORM's CARD OF 'bolterlaw15.RowsRuns'. -/
def rowsRunsUptoCard : Claim7 := { stood := { row := rowsRunsUptoRow, standIns := [], harness := (true, "6c58715d09a9bb43fd6cb53fa18bf8f7b500051c34310a8cc7759bb95a9c53d8"), looks := true }, kinds := [], alts := [], laidByText := true, laidKinds := [.sentinel], laidTests := true, laidLooks := .later }
def RowsRunsUptoCardSaid : Prop := Claim7.holds Tryd.pinned (.plain (OpenSpec.upto rowsRunsSpec)) rowsRunsUptoCard
end Rows
end Go.Proofs.YtgcjclglhijchaaDoor
