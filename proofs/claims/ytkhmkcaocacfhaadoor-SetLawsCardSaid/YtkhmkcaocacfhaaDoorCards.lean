/-
  DERIVED. GIVEN WITH THE SEED: THE CARDS: each row of YtkhmkcaocacfhaaDoorRows.lean that lists a variable, with what it lists TIED to the program's text (the seventh form; the later family's looks); each row that meets fmt, with fmt's text TOLD by the authors' own Lean function (tested against real Go, not proved from fmt's source: count such statements apart). THE CARD IS WHAT COUNTS. Prove the row's statement (the work); the ties are given (YtkhmkcaocacfhaaDoorTie.lean); close each card by the builder's one call (the guide's Derived/Test/ToyasCard.lean, 'card_holds'). Laid BY PROGRAM, IN A SANDBOX (cutbox-door.mjs). By AI agents, Wed Nov 11 2026. No macro, syntax, notation, axiom, sorry.
-/
import Derived.Test.YtkhmkcaocacfhaaDoorRows
import GoSem.ClaimSeven
namespace Go.Proofs.YtkhmkcaocacfhaaDoor
namespace Rows

/-- THE TIED CARD OF 'bolterlaw1.SetExact'. -/
def setExactCard : Claim7 := { stood := { row := setExactRow, standIns := [], harness := (true, "2e6abf209e3e28707a4b833989cc9405d1e36b9d41511b350f91622a0b6c288d"), looks := true }, kinds := [], alts := [], laidByText := true, laidKinds := [.data], laidTests := true, laidLooks := .later }
def SetExactCardSaid : Prop := Claim7.holds Tryd.pinned (.plain (OpenSpec.ofChange setExactSpec)) setExactCard

/-- THE TIED CARD OF 'bolterlaw1.SetBytes'. -/
def setBytesCard : Claim7 := { stood := { row := setBytesRow, standIns := [], harness := (true, "2e6abf209e3e28707a4b833989cc9405d1e36b9d41511b350f91622a0b6c288d"), looks := true }, kinds := [], alts := [], laidByText := true, laidKinds := [.data], laidTests := true, laidLooks := .later }
def SetBytesCardSaid : Prop := Claim7.holds Tryd.pinned (.plain (OpenSpec.ofChange setBytesSpec)) setBytesCard

/-- THE TIED CARD OF 'bolterlaw1.SetSpans'. -/
def setSpansCard : Claim7 := { stood := { row := setSpansRow, standIns := [], harness := (true, "2e6abf209e3e28707a4b833989cc9405d1e36b9d41511b350f91622a0b6c288d"), looks := true }, kinds := [], alts := [], laidByText := true, laidKinds := [.data], laidTests := true, laidLooks := .later }
def SetSpansCardSaid : Prop := Claim7.holds Tryd.pinned (.plain (OpenSpec.ofChange setSpansSpec)) setSpansCard

/-- THE TIED CARD OF 'bolterlaw1.SetLaws'. -/
def setLawsCard : Claim7 := { stood := { row := setLawsRow, standIns := [], harness := (true, "2e6abf209e3e28707a4b833989cc9405d1e36b9d41511b350f91622a0b6c288d"), looks := true }, kinds := [], alts := [], laidByText := true, laidKinds := [.data], laidTests := true, laidLooks := .later }
def SetLawsCardSaid : Prop := Claim7.holds Tryd.pinned (.plain (OpenSpec.ofChange setLawsSpec)) setLawsCard

/-- THE TIED CARD OF 'bolterlaw1.SetForms'. -/
def setFormsCard : Claim7 := { stood := { row := setFormsRow, standIns := [], harness := (true, "2e6abf209e3e28707a4b833989cc9405d1e36b9d41511b350f91622a0b6c288d"), looks := true }, kinds := [], alts := [], laidByText := true, laidKinds := [.data], laidTests := true, laidLooks := .later }
def SetFormsCardSaid : Prop := Claim7.holds Tryd.pinned (.plain (OpenSpec.ofChange setFormsSpec)) setFormsCard

/-- THE TIED CARD OF 'bolterlaw1.SetOrder'. -/
def setOrderCard : Claim7 := { stood := { row := setOrderRow, standIns := [], harness := (true, "2e6abf209e3e28707a4b833989cc9405d1e36b9d41511b350f91622a0b6c288d"), looks := true }, kinds := [], alts := [], laidByText := true, laidKinds := [.data], laidTests := true, laidLooks := .later }
def SetOrderCardSaid : Prop := Claim7.holds Tryd.pinned (.plain (OpenSpec.ofChange setOrderSpec)) setOrderCard

/-- THE TIED CARD OF 'bolterlaw2.FaultExact'. -/
def faultExactCard : Claim7 := { stood := { row := faultExactRow, standIns := [], harness := (true, "2e6abf209e3e28707a4b833989cc9405d1e36b9d41511b350f91622a0b6c288d"), looks := true }, kinds := [], alts := [], laidByText := true, laidKinds := [.handle, .sentinel, .sentinel, .sentinel, .sentinel, .sentinel, .sentinel, .sentinel, .sentinel, .sentinel, .sentinel, .sentinel, .sentinel, .sentinel, .sentinel, .sentinel, .sentinel], laidTests := true, laidLooks := .later }
def FaultExactCardSaid : Prop := Claim7.holds Tryd.pinned (.plain (OpenSpec.ofChange faultExactSpec)) faultExactCard

/-- THE TIED CARD OF 'bolterlaw2.FaultIs'. -/
def faultIsCard : Claim7 := { stood := { row := faultIsRow, standIns := [], harness := (true, "2e6abf209e3e28707a4b833989cc9405d1e36b9d41511b350f91622a0b6c288d"), looks := true }, kinds := [], alts := [], laidByText := true, laidKinds := [.handle, .sentinel, .sentinel, .sentinel, .sentinel, .sentinel, .sentinel, .sentinel, .sentinel, .sentinel, .sentinel, .sentinel, .sentinel, .sentinel, .sentinel, .sentinel, .sentinel], laidTests := true, laidLooks := .later }
def FaultIsCardSaid : Prop := Claim7.holds Tryd.pinned (.plain (OpenSpec.ofChange faultIsSpec)) faultIsCard

/-- THE TIED CARD OF 'bolterlaw2.FaultUnwraps'. -/
def faultUnwrapsCard : Claim7 := { stood := { row := faultUnwrapsRow, standIns := [], harness := (true, "2e6abf209e3e28707a4b833989cc9405d1e36b9d41511b350f91622a0b6c288d"), looks := true }, kinds := [], alts := [], laidByText := true, laidKinds := [.handle, .sentinel, .sentinel, .sentinel, .sentinel, .sentinel, .sentinel, .sentinel, .sentinel, .sentinel, .sentinel, .sentinel, .sentinel, .sentinel, .sentinel, .sentinel, .sentinel], laidTests := true, laidLooks := .later }
def FaultUnwrapsCardSaid : Prop := Claim7.holds Tryd.pinned (.plain (OpenSpec.ofChange faultUnwrapsSpec)) faultUnwrapsCard

/-- THE TIED CARD OF 'bolterlaw2.FaultOrder'. -/
def faultOrderCard : Claim7 := { stood := { row := faultOrderRow, standIns := [], harness := (true, "2e6abf209e3e28707a4b833989cc9405d1e36b9d41511b350f91622a0b6c288d"), looks := true }, kinds := [], alts := [], laidByText := true, laidKinds := [.handle, .sentinel, .sentinel, .sentinel, .sentinel, .sentinel, .sentinel, .sentinel, .sentinel, .sentinel, .sentinel, .sentinel, .sentinel, .sentinel, .sentinel, .sentinel, .sentinel], laidTests := true, laidLooks := .later }
def FaultOrderCardSaid : Prop := Claim7.holds Tryd.pinned (.plain (OpenSpec.ofChange faultOrderSpec)) faultOrderCard

/-- THE TIED CARD OF 'bolterlaw2.FaultWords'. -/
def faultWordsCard : Claim7 := { stood := { row := faultWordsRow, standIns := [], harness := (true, "2e6abf209e3e28707a4b833989cc9405d1e36b9d41511b350f91622a0b6c288d"), looks := true }, kinds := [], alts := [], laidByText := true, laidKinds := [.handle, .sentinel, .sentinel, .sentinel, .sentinel, .sentinel, .sentinel, .sentinel, .sentinel, .sentinel, .sentinel, .sentinel, .sentinel, .sentinel, .sentinel, .sentinel, .sentinel], laidTests := true, laidLooks := .later }
def FaultWordsCardSaid : Prop := Claim7.holds Tryd.pinned (.plain (OpenSpec.ofChange faultWordsSpec)) faultWordsCard

/-- THE SECOND FORM's CARD OF 'bolterlaw1.SetExact'. -/
def setExactUptoCard : Claim7 := { stood := { row := setExactUptoRow, standIns := [], harness := (true, "2e6abf209e3e28707a4b833989cc9405d1e36b9d41511b350f91622a0b6c288d"), looks := true }, kinds := [], alts := [], laidByText := true, laidKinds := [.data], laidTests := true, laidLooks := .later }
def SetExactUptoCardSaid : Prop := Claim7.holds Tryd.pinned (.plain (OpenSpec.upto setExactSpec)) setExactUptoCard

/-- THE SECOND FORM's CARD OF 'bolterlaw1.SetBytes'. -/
def setBytesUptoCard : Claim7 := { stood := { row := setBytesUptoRow, standIns := [], harness := (true, "2e6abf209e3e28707a4b833989cc9405d1e36b9d41511b350f91622a0b6c288d"), looks := true }, kinds := [], alts := [], laidByText := true, laidKinds := [.data], laidTests := true, laidLooks := .later }
def SetBytesUptoCardSaid : Prop := Claim7.holds Tryd.pinned (.plain (OpenSpec.upto setBytesSpec)) setBytesUptoCard

/-- THE SECOND FORM's CARD OF 'bolterlaw1.SetSpans'. -/
def setSpansUptoCard : Claim7 := { stood := { row := setSpansUptoRow, standIns := [], harness := (true, "2e6abf209e3e28707a4b833989cc9405d1e36b9d41511b350f91622a0b6c288d"), looks := true }, kinds := [], alts := [], laidByText := true, laidKinds := [.data], laidTests := true, laidLooks := .later }
def SetSpansUptoCardSaid : Prop := Claim7.holds Tryd.pinned (.plain (OpenSpec.upto setSpansSpec)) setSpansUptoCard

/-- THE SECOND FORM's CARD OF 'bolterlaw1.SetLaws'. -/
def setLawsUptoCard : Claim7 := { stood := { row := setLawsUptoRow, standIns := [], harness := (true, "2e6abf209e3e28707a4b833989cc9405d1e36b9d41511b350f91622a0b6c288d"), looks := true }, kinds := [], alts := [], laidByText := true, laidKinds := [.data], laidTests := true, laidLooks := .later }
def SetLawsUptoCardSaid : Prop := Claim7.holds Tryd.pinned (.plain (OpenSpec.upto setLawsSpec)) setLawsUptoCard

/-- THE SECOND FORM's CARD OF 'bolterlaw1.SetForms'. -/
def setFormsUptoCard : Claim7 := { stood := { row := setFormsUptoRow, standIns := [], harness := (true, "2e6abf209e3e28707a4b833989cc9405d1e36b9d41511b350f91622a0b6c288d"), looks := true }, kinds := [], alts := [], laidByText := true, laidKinds := [.data], laidTests := true, laidLooks := .later }
def SetFormsUptoCardSaid : Prop := Claim7.holds Tryd.pinned (.plain (OpenSpec.upto setFormsSpec)) setFormsUptoCard

/-- THE SECOND FORM's CARD OF 'bolterlaw1.SetOrder'. -/
def setOrderUptoCard : Claim7 := { stood := { row := setOrderUptoRow, standIns := [], harness := (true, "2e6abf209e3e28707a4b833989cc9405d1e36b9d41511b350f91622a0b6c288d"), looks := true }, kinds := [], alts := [], laidByText := true, laidKinds := [.data], laidTests := true, laidLooks := .later }
def SetOrderUptoCardSaid : Prop := Claim7.holds Tryd.pinned (.plain (OpenSpec.upto setOrderSpec)) setOrderUptoCard

/-- THE SECOND FORM's CARD OF 'bolterlaw2.FaultExact'. -/
def faultExactUptoCard : Claim7 := { stood := { row := faultExactUptoRow, standIns := [], harness := (true, "2e6abf209e3e28707a4b833989cc9405d1e36b9d41511b350f91622a0b6c288d"), looks := true }, kinds := [], alts := [], laidByText := true, laidKinds := [.handle, .sentinel, .sentinel, .sentinel, .sentinel, .sentinel, .sentinel, .sentinel, .sentinel, .sentinel, .sentinel, .sentinel, .sentinel, .sentinel, .sentinel, .sentinel, .sentinel], laidTests := true, laidLooks := .later }
def FaultExactUptoCardSaid : Prop := Claim7.holds Tryd.pinned (.plain (OpenSpec.upto faultExactSpec)) faultExactUptoCard

/-- THE SECOND FORM's CARD OF 'bolterlaw2.FaultIs'. -/
def faultIsUptoCard : Claim7 := { stood := { row := faultIsUptoRow, standIns := [], harness := (true, "2e6abf209e3e28707a4b833989cc9405d1e36b9d41511b350f91622a0b6c288d"), looks := true }, kinds := [], alts := [], laidByText := true, laidKinds := [.handle, .sentinel, .sentinel, .sentinel, .sentinel, .sentinel, .sentinel, .sentinel, .sentinel, .sentinel, .sentinel, .sentinel, .sentinel, .sentinel, .sentinel, .sentinel, .sentinel], laidTests := true, laidLooks := .later }
def FaultIsUptoCardSaid : Prop := Claim7.holds Tryd.pinned (.plain (OpenSpec.upto faultIsSpec)) faultIsUptoCard

/-- THE SECOND FORM's CARD OF 'bolterlaw2.FaultUnwraps'. -/
def faultUnwrapsUptoCard : Claim7 := { stood := { row := faultUnwrapsUptoRow, standIns := [], harness := (true, "2e6abf209e3e28707a4b833989cc9405d1e36b9d41511b350f91622a0b6c288d"), looks := true }, kinds := [], alts := [], laidByText := true, laidKinds := [.handle, .sentinel, .sentinel, .sentinel, .sentinel, .sentinel, .sentinel, .sentinel, .sentinel, .sentinel, .sentinel, .sentinel, .sentinel, .sentinel, .sentinel, .sentinel, .sentinel], laidTests := true, laidLooks := .later }
def FaultUnwrapsUptoCardSaid : Prop := Claim7.holds Tryd.pinned (.plain (OpenSpec.upto faultUnwrapsSpec)) faultUnwrapsUptoCard

/-- THE SECOND FORM's CARD OF 'bolterlaw2.FaultOrder'. -/
def faultOrderUptoCard : Claim7 := { stood := { row := faultOrderUptoRow, standIns := [], harness := (true, "2e6abf209e3e28707a4b833989cc9405d1e36b9d41511b350f91622a0b6c288d"), looks := true }, kinds := [], alts := [], laidByText := true, laidKinds := [.handle, .sentinel, .sentinel, .sentinel, .sentinel, .sentinel, .sentinel, .sentinel, .sentinel, .sentinel, .sentinel, .sentinel, .sentinel, .sentinel, .sentinel, .sentinel, .sentinel], laidTests := true, laidLooks := .later }
def FaultOrderUptoCardSaid : Prop := Claim7.holds Tryd.pinned (.plain (OpenSpec.upto faultOrderSpec)) faultOrderUptoCard

/-- THE SECOND FORM's CARD OF 'bolterlaw2.FaultWords'. -/
def faultWordsUptoCard : Claim7 := { stood := { row := faultWordsUptoRow, standIns := [], harness := (true, "2e6abf209e3e28707a4b833989cc9405d1e36b9d41511b350f91622a0b6c288d"), looks := true }, kinds := [], alts := [], laidByText := true, laidKinds := [.handle, .sentinel, .sentinel, .sentinel, .sentinel, .sentinel, .sentinel, .sentinel, .sentinel, .sentinel, .sentinel, .sentinel, .sentinel, .sentinel, .sentinel, .sentinel, .sentinel], laidTests := true, laidLooks := .later }
def FaultWordsUptoCardSaid : Prop := Claim7.holds Tryd.pinned (.plain (OpenSpec.upto faultWordsSpec)) faultWordsUptoCard
end Rows
end Go.Proofs.YtkhmkcaocacfhaaDoor
