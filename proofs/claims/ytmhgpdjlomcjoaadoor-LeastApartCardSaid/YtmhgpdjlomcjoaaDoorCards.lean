/-
  DERIVED. GIVEN WITH THE SEED: THE CARDS: each row of YtmhgpdjlomcjoaaDoorRows.lean that lists a variable, with what it lists TIED to the program's text (the seventh form; the later family's looks); each row that meets fmt, with fmt's text TOLD by the authors' own Lean function (tested against real Go, not proved from fmt's source: count such statements apart). THE CARD IS WHAT COUNTS. Prove the row's statement (the work); the ties are given (YtmhgpdjlomcjoaaDoorTie.lean); close each card by the builder's one call (the guide's Derived/Test/ToyasCard.lean, 'card_holds'). Laid BY PROGRAM, IN A SANDBOX (cutbox-door.mjs). By AI agents, Wed Nov 11 2026. No macro, syntax, notation, axiom, sorry.
-/
import Derived.Test.YtmhgpdjlomcjoaaDoorRows
import GoSem.ClaimSeven
namespace Go.Proofs.YtmhgpdjlomcjoaaDoor
namespace Rows

/-- THE TIED CARD OF 'bolterlaw12.LeastExact'. -/
def leastExactCard : Claim7 := { stood := { row := leastExactRow, standIns := [], harness := (true, "1b7e86771fddf012b26f7fbd34d23f8629602a94a920f7258fee623c9f086fc4"), looks := true }, kinds := [], alts := [], laidByText := true, laidKinds := [.handle, .sentinel, .sentinel, .sentinel, .sentinel, .sentinel, .sentinel, .sentinel, .sentinel, .sentinel, .sentinel, .sentinel, .sentinel, .sentinel, .sentinel, .sentinel, .sentinel], laidTests := true, laidLooks := .later }
def LeastExactCardSaid : Prop := Claim7.holds Tryd.pinned (.plain (OpenSpec.ofChange leastExactSpec)) leastExactCard

/-- THE TIED CARD OF 'bolterlaw12.LeastLabels'. -/
def leastLabelsCard : Claim7 := { stood := { row := leastLabelsRow, standIns := [], harness := (true, "1b7e86771fddf012b26f7fbd34d23f8629602a94a920f7258fee623c9f086fc4"), looks := true }, kinds := [], alts := [], laidByText := true, laidKinds := [.sentinel], laidTests := true, laidLooks := .later }
def LeastLabelsCardSaid : Prop := Claim7.holds Tryd.pinned (.plain (OpenSpec.ofChange leastLabelsSpec)) leastLabelsCard

/-- THE TIED CARD OF 'bolterlaw12.LeastApart'. -/
def leastApartCard : Claim7 := { stood := { row := leastApartRow, standIns := [], harness := (true, "1b7e86771fddf012b26f7fbd34d23f8629602a94a920f7258fee623c9f086fc4"), looks := true }, kinds := [], alts := [], laidByText := true, laidKinds := [.sentinel], laidTests := true, laidLooks := .later }
def LeastApartCardSaid : Prop := Claim7.holds Tryd.pinned (.plain (OpenSpec.ofChange leastApartSpec)) leastApartCard

/-- THE TIED CARD OF 'bolterlaw12.LeastOne'. -/
def leastOneCard : Claim7 := { stood := { row := leastOneRow, standIns := [], harness := (true, "1b7e86771fddf012b26f7fbd34d23f8629602a94a920f7258fee623c9f086fc4"), looks := true }, kinds := [], alts := [], laidByText := true, laidKinds := [.sentinel], laidTests := true, laidLooks := .later }
def LeastOneCardSaid : Prop := Claim7.holds Tryd.pinned (.plain (OpenSpec.ofChange leastOneSpec)) leastOneCard

/-- THE TIED CARD OF 'bolterlaw12.LeastClasses'. -/
def leastClassesCard : Claim7 := { stood := { row := leastClassesRow, standIns := [], harness := (true, "1b7e86771fddf012b26f7fbd34d23f8629602a94a920f7258fee623c9f086fc4"), looks := true }, kinds := [], alts := [], laidByText := true, laidKinds := [.sentinel], laidTests := true, laidLooks := .later }
def LeastClassesCardSaid : Prop := Claim7.holds Tryd.pinned (.plain (OpenSpec.ofChange leastClassesSpec)) leastClassesCard

/-- THE SECOND FORM's CARD OF 'bolterlaw12.LeastExact'. -/
def leastExactUptoCard : Claim7 := { stood := { row := leastExactUptoRow, standIns := [], harness := (true, "1b7e86771fddf012b26f7fbd34d23f8629602a94a920f7258fee623c9f086fc4"), looks := true }, kinds := [], alts := [], laidByText := true, laidKinds := [.handle, .sentinel, .sentinel, .sentinel, .sentinel, .sentinel, .sentinel, .sentinel, .sentinel, .sentinel, .sentinel, .sentinel, .sentinel, .sentinel, .sentinel, .sentinel, .sentinel], laidTests := true, laidLooks := .later }
def LeastExactUptoCardSaid : Prop := Claim7.holds Tryd.pinned (.plain (OpenSpec.upto leastExactSpec)) leastExactUptoCard

/-- THE SECOND FORM's CARD OF 'bolterlaw12.LeastLabels'. -/
def leastLabelsUptoCard : Claim7 := { stood := { row := leastLabelsUptoRow, standIns := [], harness := (true, "1b7e86771fddf012b26f7fbd34d23f8629602a94a920f7258fee623c9f086fc4"), looks := true }, kinds := [], alts := [], laidByText := true, laidKinds := [.sentinel], laidTests := true, laidLooks := .later }
def LeastLabelsUptoCardSaid : Prop := Claim7.holds Tryd.pinned (.plain (OpenSpec.upto leastLabelsSpec)) leastLabelsUptoCard

/-- THE SECOND FORM's CARD OF 'bolterlaw12.LeastApart'. -/
def leastApartUptoCard : Claim7 := { stood := { row := leastApartUptoRow, standIns := [], harness := (true, "1b7e86771fddf012b26f7fbd34d23f8629602a94a920f7258fee623c9f086fc4"), looks := true }, kinds := [], alts := [], laidByText := true, laidKinds := [.sentinel], laidTests := true, laidLooks := .later }
def LeastApartUptoCardSaid : Prop := Claim7.holds Tryd.pinned (.plain (OpenSpec.upto leastApartSpec)) leastApartUptoCard

/-- THE SECOND FORM's CARD OF 'bolterlaw12.LeastOne'. -/
def leastOneUptoCard : Claim7 := { stood := { row := leastOneUptoRow, standIns := [], harness := (true, "1b7e86771fddf012b26f7fbd34d23f8629602a94a920f7258fee623c9f086fc4"), looks := true }, kinds := [], alts := [], laidByText := true, laidKinds := [.sentinel], laidTests := true, laidLooks := .later }
def LeastOneUptoCardSaid : Prop := Claim7.holds Tryd.pinned (.plain (OpenSpec.upto leastOneSpec)) leastOneUptoCard

/-- THE SECOND FORM's CARD OF 'bolterlaw12.LeastClasses'. -/
def leastClassesUptoCard : Claim7 := { stood := { row := leastClassesUptoRow, standIns := [], harness := (true, "1b7e86771fddf012b26f7fbd34d23f8629602a94a920f7258fee623c9f086fc4"), looks := true }, kinds := [], alts := [], laidByText := true, laidKinds := [.sentinel], laidTests := true, laidLooks := .later }
def LeastClassesUptoCardSaid : Prop := Claim7.holds Tryd.pinned (.plain (OpenSpec.upto leastClassesSpec)) leastClassesUptoCard
end Rows
end Go.Proofs.YtmhgpdjlomcjoaaDoor
