/-
  DERIVED. GIVEN WITH THE SEED: THE CARDS: each row of YtkfnapildojkkaaDoorRows.lean that lists a variable, with what it lists TIED to the program's text (the seventh form; the later family's looks); each row that meets fmt, with fmt's text TOLD by the authors' own Lean function (tested against real Go, not proved from fmt's source: count such statements apart). THE CARD IS WHAT COUNTS. Prove the row's statement (the work); the ties are given (YtkfnapildojkkaaDoorTie.lean); close each card by the builder's one call (the guide's Derived/Test/ToyasCard.lean, 'card_holds'). Laid BY PROGRAM, IN A SANDBOX (cutbox-door.mjs). By AI agents, Wed Nov 11 2026. No macro, syntax, notation, axiom, sorry.
-/
import Derived.Test.YtkfnapildojkkaaDoorRows
import GoSem.ClaimSeven
namespace Go.Proofs.YtkfnapildojkkaaDoor
namespace Rows

/-- THE TIED CARD OF 'bolterlaw1.SetExact'. -/
def setExactCard : Claim7 := { stood := { row := setExactRow, standIns := [], harness := (true, "04c5436db4b4ae5d3bef1fe6eac5e9d2d11a2c10792522ded3cc30e3a8bce81c"), looks := false }, kinds := [], alts := [], laidByText := true, laidKinds := [.data], laidTests := true, laidLooks := .later }
def SetExactCardSaid : Prop := Claim7.holds Tryd.pinned (.plain (OpenSpec.ofChange setExactSpec)) setExactCard

/-- THE TIED CARD OF 'bolterlaw1.SetBytes'. -/
def setBytesCard : Claim7 := { stood := { row := setBytesRow, standIns := [], harness := (true, "04c5436db4b4ae5d3bef1fe6eac5e9d2d11a2c10792522ded3cc30e3a8bce81c"), looks := false }, kinds := [], alts := [], laidByText := true, laidKinds := [.data], laidTests := true, laidLooks := .later }
def SetBytesCardSaid : Prop := Claim7.holds Tryd.pinned (.plain (OpenSpec.ofChange setBytesSpec)) setBytesCard

/-- THE TIED CARD OF 'bolterlaw1.SetSpans'. -/
def setSpansCard : Claim7 := { stood := { row := setSpansRow, standIns := [], harness := (true, "04c5436db4b4ae5d3bef1fe6eac5e9d2d11a2c10792522ded3cc30e3a8bce81c"), looks := false }, kinds := [], alts := [], laidByText := true, laidKinds := [.data], laidTests := true, laidLooks := .later }
def SetSpansCardSaid : Prop := Claim7.holds Tryd.pinned (.plain (OpenSpec.ofChange setSpansSpec)) setSpansCard

/-- THE TIED CARD OF 'bolterlaw1.SetLaws'. -/
def setLawsCard : Claim7 := { stood := { row := setLawsRow, standIns := [], harness := (true, "04c5436db4b4ae5d3bef1fe6eac5e9d2d11a2c10792522ded3cc30e3a8bce81c"), looks := false }, kinds := [], alts := [], laidByText := true, laidKinds := [.data], laidTests := true, laidLooks := .later }
def SetLawsCardSaid : Prop := Claim7.holds Tryd.pinned (.plain (OpenSpec.ofChange setLawsSpec)) setLawsCard

/-- THE TIED CARD OF 'bolterlaw1.SetForms'. -/
def setFormsCard : Claim7 := { stood := { row := setFormsRow, standIns := [], harness := (true, "04c5436db4b4ae5d3bef1fe6eac5e9d2d11a2c10792522ded3cc30e3a8bce81c"), looks := false }, kinds := [], alts := [], laidByText := true, laidKinds := [.data], laidTests := true, laidLooks := .later }
def SetFormsCardSaid : Prop := Claim7.holds Tryd.pinned (.plain (OpenSpec.ofChange setFormsSpec)) setFormsCard

/-- THE TIED CARD OF 'bolterlaw1.SetOrder'. -/
def setOrderCard : Claim7 := { stood := { row := setOrderRow, standIns := [], harness := (true, "04c5436db4b4ae5d3bef1fe6eac5e9d2d11a2c10792522ded3cc30e3a8bce81c"), looks := false }, kinds := [], alts := [], laidByText := true, laidKinds := [.data], laidTests := true, laidLooks := .later }
def SetOrderCardSaid : Prop := Claim7.holds Tryd.pinned (.plain (OpenSpec.ofChange setOrderSpec)) setOrderCard

/-- THE SECOND FORM's CARD OF 'bolterlaw1.SetExact'. -/
def setExactUptoCard : Claim7 := { stood := { row := setExactUptoRow, standIns := [], harness := (true, "04c5436db4b4ae5d3bef1fe6eac5e9d2d11a2c10792522ded3cc30e3a8bce81c"), looks := false }, kinds := [], alts := [], laidByText := true, laidKinds := [.data], laidTests := true, laidLooks := .later }
def SetExactUptoCardSaid : Prop := Claim7.holds Tryd.pinned (.plain (OpenSpec.upto setExactSpec)) setExactUptoCard

/-- THE SECOND FORM's CARD OF 'bolterlaw1.SetBytes'. -/
def setBytesUptoCard : Claim7 := { stood := { row := setBytesUptoRow, standIns := [], harness := (true, "04c5436db4b4ae5d3bef1fe6eac5e9d2d11a2c10792522ded3cc30e3a8bce81c"), looks := false }, kinds := [], alts := [], laidByText := true, laidKinds := [.data], laidTests := true, laidLooks := .later }
def SetBytesUptoCardSaid : Prop := Claim7.holds Tryd.pinned (.plain (OpenSpec.upto setBytesSpec)) setBytesUptoCard

/-- THE SECOND FORM's CARD OF 'bolterlaw1.SetSpans'. -/
def setSpansUptoCard : Claim7 := { stood := { row := setSpansUptoRow, standIns := [], harness := (true, "04c5436db4b4ae5d3bef1fe6eac5e9d2d11a2c10792522ded3cc30e3a8bce81c"), looks := false }, kinds := [], alts := [], laidByText := true, laidKinds := [.data], laidTests := true, laidLooks := .later }
def SetSpansUptoCardSaid : Prop := Claim7.holds Tryd.pinned (.plain (OpenSpec.upto setSpansSpec)) setSpansUptoCard

/-- THE SECOND FORM's CARD OF 'bolterlaw1.SetLaws'. -/
def setLawsUptoCard : Claim7 := { stood := { row := setLawsUptoRow, standIns := [], harness := (true, "04c5436db4b4ae5d3bef1fe6eac5e9d2d11a2c10792522ded3cc30e3a8bce81c"), looks := false }, kinds := [], alts := [], laidByText := true, laidKinds := [.data], laidTests := true, laidLooks := .later }
def SetLawsUptoCardSaid : Prop := Claim7.holds Tryd.pinned (.plain (OpenSpec.upto setLawsSpec)) setLawsUptoCard

/-- THE SECOND FORM's CARD OF 'bolterlaw1.SetForms'. -/
def setFormsUptoCard : Claim7 := { stood := { row := setFormsUptoRow, standIns := [], harness := (true, "04c5436db4b4ae5d3bef1fe6eac5e9d2d11a2c10792522ded3cc30e3a8bce81c"), looks := false }, kinds := [], alts := [], laidByText := true, laidKinds := [.data], laidTests := true, laidLooks := .later }
def SetFormsUptoCardSaid : Prop := Claim7.holds Tryd.pinned (.plain (OpenSpec.upto setFormsSpec)) setFormsUptoCard

/-- THE SECOND FORM's CARD OF 'bolterlaw1.SetOrder'. -/
def setOrderUptoCard : Claim7 := { stood := { row := setOrderUptoRow, standIns := [], harness := (true, "04c5436db4b4ae5d3bef1fe6eac5e9d2d11a2c10792522ded3cc30e3a8bce81c"), looks := false }, kinds := [], alts := [], laidByText := true, laidKinds := [.data], laidTests := true, laidLooks := .later }
def SetOrderUptoCardSaid : Prop := Claim7.holds Tryd.pinned (.plain (OpenSpec.upto setOrderSpec)) setOrderUptoCard
end Rows
end Go.Proofs.YtkfnapildojkkaaDoor
