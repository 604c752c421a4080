/-
  DERIVED. GIVEN WITH THE SEED: THE CARDS: each row of YtnnkomdkggepjaaDoorRows.lean that lists a variable, with what it lists TIED to the program's text (the seventh form; the later family's looks); each row that meets fmt, with fmt's text TOLD by the authors' own Lean function (tested against real Go, not proved from fmt's source: count such statements apart). THE CARD IS WHAT COUNTS. Prove the row's statement (the work); the ties are given (YtnnkomdkggepjaaDoorTie.lean); close each card by the builder's one call (the guide's Derived/Test/ToyasCard.lean, 'card_holds'). Laid BY PROGRAM, IN A SANDBOX (cutbox-door.mjs). By AI agents, Wed Nov 11 2026. No macro, syntax, notation, axiom, sorry.
-/
import Derived.Test.YtnnkomdkggepjaaDoorRows
import GoSem.ClaimSeven
namespace Go.Proofs.YtnnkomdkggepjaaDoor
namespace Rows

/-- THE TIED CARD OF 'bolterlaw12.LeastExact'. -/
def leastExactCard : Claim7 := { stood := { row := leastExactRow, standIns := [], harness := (true, "07bde08e098de4cf974e5d72aad7f6af5c0659ebfb29772b9d58b154d6de5f92"), looks := true }, kinds := [], alts := [], laidByText := true, laidKinds := [.handle, .sentinel, .sentinel, .sentinel, .sentinel, .sentinel, .sentinel, .sentinel, .sentinel, .sentinel, .sentinel, .sentinel, .sentinel, .sentinel, .sentinel, .sentinel, .sentinel], laidTests := true, laidLooks := .later }
def LeastExactCardSaid : Prop := Claim7.holds Tryd.pinned (.plain (OpenSpec.ofChange leastExactSpec)) leastExactCard

/-- THE SECOND FORM's CARD OF 'bolterlaw12.LeastExact'. -/
def leastExactUptoCard : Claim7 := { stood := { row := leastExactUptoRow, standIns := [], harness := (true, "07bde08e098de4cf974e5d72aad7f6af5c0659ebfb29772b9d58b154d6de5f92"), looks := true }, kinds := [], alts := [], laidByText := true, laidKinds := [.handle, .sentinel, .sentinel, .sentinel, .sentinel, .sentinel, .sentinel, .sentinel, .sentinel, .sentinel, .sentinel, .sentinel, .sentinel, .sentinel, .sentinel, .sentinel, .sentinel], laidTests := true, laidLooks := .later }
def LeastExactUptoCardSaid : Prop := Claim7.holds Tryd.pinned (.plain (OpenSpec.upto leastExactSpec)) leastExactUptoCard
end Rows
end Go.Proofs.YtnnkomdkggepjaaDoor
