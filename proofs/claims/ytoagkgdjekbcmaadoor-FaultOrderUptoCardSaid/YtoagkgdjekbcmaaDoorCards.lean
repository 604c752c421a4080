/-
  DERIVED. GIVEN WITH THE SEED: THE CARDS: each row of YtoagkgdjekbcmaaDoorRows.lean that lists a variable, with what it lists TIED to the program's text (the seventh form; the later family's looks); each row that meets fmt, with fmt's text TOLD by the authors' own Lean function (tested against real Go, not proved from fmt's source: count such statements apart). THE CARD IS WHAT COUNTS. Prove the row's statement (the work); the ties are given (YtoagkgdjekbcmaaDoorTie.lean); close each card by the builder's one call (the guide's Derived/Test/ToyasCard.lean, 'card_holds'). Laid BY PROGRAM, IN A SANDBOX (cutbox-door.mjs). By AI agents, Wed Nov 11 2026. No macro, syntax, notation, axiom, sorry.
-/
import Derived.Test.YtoagkgdjekbcmaaDoorRows
import GoSem.ClaimSeven
namespace Go.Proofs.YtoagkgdjekbcmaaDoor
namespace Rows

/-- THE TIED CARD OF 'bolterlaw2.FaultIs'. -/
def faultIsCard : Claim7 := { stood := { row := faultIsRow, standIns := [], harness := (true, "78bf8b73567fa89fc1fb5cd90dfdd7dd5569bef4a80ff94fc8039477ae8dc745"), looks := true }, kinds := [], alts := [], laidByText := true, laidKinds := [.handle, .sentinel, .sentinel, .sentinel, .sentinel, .sentinel, .sentinel, .sentinel, .sentinel, .sentinel, .sentinel, .sentinel, .sentinel, .sentinel, .sentinel, .sentinel, .sentinel], laidTests := true, laidLooks := .later }
def FaultIsCardSaid : Prop := Claim7.holds Tryd.pinned (.plain (OpenSpec.ofChange faultIsSpec)) faultIsCard

/-- THE TIED CARD OF 'bolterlaw2.FaultOrder'. -/
def faultOrderCard : Claim7 := { stood := { row := faultOrderRow, standIns := [], harness := (true, "78bf8b73567fa89fc1fb5cd90dfdd7dd5569bef4a80ff94fc8039477ae8dc745"), looks := true }, kinds := [], alts := [], laidByText := true, laidKinds := [.handle, .sentinel, .sentinel, .sentinel, .sentinel, .sentinel, .sentinel, .sentinel, .sentinel, .sentinel, .sentinel, .sentinel, .sentinel, .sentinel, .sentinel, .sentinel, .sentinel], laidTests := true, laidLooks := .later }
def FaultOrderCardSaid : Prop := Claim7.holds Tryd.pinned (.plain (OpenSpec.ofChange faultOrderSpec)) faultOrderCard

/-- THE SECOND FORM's CARD OF 'bolterlaw2.FaultIs'. -/
def faultIsUptoCard : Claim7 := { stood := { row := faultIsUptoRow, standIns := [], harness := (true, "78bf8b73567fa89fc1fb5cd90dfdd7dd5569bef4a80ff94fc8039477ae8dc745"), looks := true }, kinds := [], alts := [], laidByText := true, laidKinds := [.handle, .sentinel, .sentinel, .sentinel, .sentinel, .sentinel, .sentinel, .sentinel, .sentinel, .sentinel, .sentinel, .sentinel, .sentinel, .sentinel, .sentinel, .sentinel, .sentinel], laidTests := true, laidLooks := .later }
def FaultIsUptoCardSaid : Prop := Claim7.holds Tryd.pinned (.plain (OpenSpec.upto faultIsSpec)) faultIsUptoCard

/-- THE SECOND FORM's CARD OF 'bolterlaw2.FaultOrder'. -/
def faultOrderUptoCard : Claim7 := { stood := { row := faultOrderUptoRow, standIns := [], harness := (true, "78bf8b73567fa89fc1fb5cd90dfdd7dd5569bef4a80ff94fc8039477ae8dc745"), looks := true }, kinds := [], alts := [], laidByText := true, laidKinds := [.handle, .sentinel, .sentinel, .sentinel, .sentinel, .sentinel, .sentinel, .sentinel, .sentinel, .sentinel, .sentinel, .sentinel, .sentinel, .sentinel, .sentinel, .sentinel, .sentinel], laidTests := true, laidLooks := .later }
def FaultOrderUptoCardSaid : Prop := Claim7.holds Tryd.pinned (.plain (OpenSpec.upto faultOrderSpec)) faultOrderUptoCard
end Rows
end Go.Proofs.YtoagkgdjekbcmaaDoor
