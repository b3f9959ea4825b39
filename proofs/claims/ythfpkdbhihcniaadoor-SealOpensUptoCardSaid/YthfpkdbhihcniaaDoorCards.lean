/-
  DERIVED. GIVEN WITH THE SEED: THE CARDS: each row of YthfpkdbhihcniaaDoorRows.lean that lists a variable, with what it lists TIED to the program's text (the seventh form; the later family's looks); each row that meets fmt, with fmt's text TOLD by the authors' own Lean function (tested against real Go, not proved from fmt's source: count such statements apart). THE CARD IS WHAT COUNTS. Prove the row's statement (the work); the ties are given (YthfpkdbhihcniaaDoorTie.lean); close each card by the builder's one call (the guide's Derived/Test/ToyasCard.lean, 'card_holds'). Laid BY PROGRAM, IN A SANDBOX (cutbox-door.mjs). By AI agents, Wed Nov 11 2026. No macro, syntax, notation, axiom, sorry.
-/
import Derived.Test.YthfpkdbhihcniaaDoorRows
import GoSem.ClaimSeven
namespace Go.Proofs.YthfpkdbhihcniaaDoor
namespace Rows

/-- THE TIED CARD OF 'tantaluslaw06.SealSeals'. -/
def sealSealsCard : Claim7 := { stood := { row := sealSealsRow, standIns := [], harness := (true, "5920d9f51b291cca219c0198b3c54a947b38d3852b6b6a5db82c183152ead297"), looks := false }, kinds := [], alts := [], laidByText := true, laidKinds := [.data, .data, .data, .data], laidTests := true, laidLooks := .later }
def SealSealsCardSaid : Prop := Claim7.holds Tryd.pinned (.plain (OpenSpec.ofChange sealSealsSpec)) sealSealsCard

/-- THE TIED CARD OF 'tantaluslaw06.SealOpens'. -/
def sealOpensCard : Claim7 := { stood := { row := sealOpensRow, standIns := [], harness := (true, "5920d9f51b291cca219c0198b3c54a947b38d3852b6b6a5db82c183152ead297"), looks := false }, kinds := [], alts := [], laidByText := true, laidKinds := [.data, .data, .data, .data], laidTests := true, laidLooks := .later }
def SealOpensCardSaid : Prop := Claim7.holds Tryd.pinned (.plain (OpenSpec.ofChange sealOpensSpec)) sealOpensCard

/-- THE TIED CARD OF 'tantaluslaw06.SealBack'. -/
def sealBackCard : Claim7 := { stood := { row := sealBackRow, standIns := [], harness := (true, "5920d9f51b291cca219c0198b3c54a947b38d3852b6b6a5db82c183152ead297"), looks := false }, kinds := [], alts := [], laidByText := true, laidKinds := [.data, .data, .data], laidTests := true, laidLooks := .later }
def SealBackCardSaid : Prop := Claim7.holds Tryd.pinned (.plain (OpenSpec.ofChange sealBackSpec)) sealBackCard

/-- THE TIED CARD OF 'tantaluslaw06.SealOnce'. -/
def sealOnceCard : Claim7 := { stood := { row := sealOnceRow, standIns := [], harness := (true, "5920d9f51b291cca219c0198b3c54a947b38d3852b6b6a5db82c183152ead297"), looks := false }, kinds := [], alts := [], laidByText := true, laidKinds := [.data, .data, .data], laidTests := true, laidLooks := .later }
def SealOnceCardSaid : Prop := Claim7.holds Tryd.pinned (.plain (OpenSpec.ofChange sealOnceSpec)) sealOnceCard

/-- THE TIED CARD OF 'tantaluslaw06.SealOther'. -/
def sealOtherCard : Claim7 := { stood := { row := sealOtherRow, standIns := [], harness := (true, "5920d9f51b291cca219c0198b3c54a947b38d3852b6b6a5db82c183152ead297"), looks := false }, kinds := [], alts := [], laidByText := true, laidKinds := [.data, .data, .data], laidTests := true, laidLooks := .later }
def SealOtherCardSaid : Prop := Claim7.holds Tryd.pinned (.plain (OpenSpec.ofChange sealOtherSpec)) sealOtherCard

/-- THE TIED CARD OF 'tantaluslaw06.SealTurned'. -/
def sealTurnedCard : Claim7 := { stood := { row := sealTurnedRow, standIns := [], harness := (true, "5920d9f51b291cca219c0198b3c54a947b38d3852b6b6a5db82c183152ead297"), looks := false }, kinds := [], alts := [], laidByText := true, laidKinds := [.data, .data, .data], laidTests := true, laidLooks := .later }
def SealTurnedCardSaid : Prop := Claim7.holds Tryd.pinned (.plain (OpenSpec.ofChange sealTurnedSpec)) sealTurnedCard

/-- THE SECOND FORM's CARD OF 'tantaluslaw06.SealSeals'. -/
def sealSealsUptoCard : Claim7 := { stood := { row := sealSealsUptoRow, standIns := [], harness := (true, "5920d9f51b291cca219c0198b3c54a947b38d3852b6b6a5db82c183152ead297"), looks := false }, kinds := [], alts := [], laidByText := true, laidKinds := [.data, .data, .data, .data], laidTests := true, laidLooks := .later }
def SealSealsUptoCardSaid : Prop := Claim7.holds Tryd.pinned (.plain (OpenSpec.upto sealSealsSpec)) sealSealsUptoCard

/-- THE SECOND FORM's CARD OF 'tantaluslaw06.SealOpens'. -/
def sealOpensUptoCard : Claim7 := { stood := { row := sealOpensUptoRow, standIns := [], harness := (true, "5920d9f51b291cca219c0198b3c54a947b38d3852b6b6a5db82c183152ead297"), looks := false }, kinds := [], alts := [], laidByText := true, laidKinds := [.data, .data, .data, .data], laidTests := true, laidLooks := .later }
def SealOpensUptoCardSaid : Prop := Claim7.holds Tryd.pinned (.plain (OpenSpec.upto sealOpensSpec)) sealOpensUptoCard

/-- THE SECOND FORM's CARD OF 'tantaluslaw06.SealBack'. -/
def sealBackUptoCard : Claim7 := { stood := { row := sealBackUptoRow, standIns := [], harness := (true, "5920d9f51b291cca219c0198b3c54a947b38d3852b6b6a5db82c183152ead297"), looks := false }, kinds := [], alts := [], laidByText := true, laidKinds := [.data, .data, .data], laidTests := true, laidLooks := .later }
def SealBackUptoCardSaid : Prop := Claim7.holds Tryd.pinned (.plain (OpenSpec.upto sealBackSpec)) sealBackUptoCard

/-- THE SECOND FORM's CARD OF 'tantaluslaw06.SealOnce'. -/
def sealOnceUptoCard : Claim7 := { stood := { row := sealOnceUptoRow, standIns := [], harness := (true, "5920d9f51b291cca219c0198b3c54a947b38d3852b6b6a5db82c183152ead297"), looks := false }, kinds := [], alts := [], laidByText := true, laidKinds := [.data, .data, .data], laidTests := true, laidLooks := .later }
def SealOnceUptoCardSaid : Prop := Claim7.holds Tryd.pinned (.plain (OpenSpec.upto sealOnceSpec)) sealOnceUptoCard

/-- THE SECOND FORM's CARD OF 'tantaluslaw06.SealOther'. -/
def sealOtherUptoCard : Claim7 := { stood := { row := sealOtherUptoRow, standIns := [], harness := (true, "5920d9f51b291cca219c0198b3c54a947b38d3852b6b6a5db82c183152ead297"), looks := false }, kinds := [], alts := [], laidByText := true, laidKinds := [.data, .data, .data], laidTests := true, laidLooks := .later }
def SealOtherUptoCardSaid : Prop := Claim7.holds Tryd.pinned (.plain (OpenSpec.upto sealOtherSpec)) sealOtherUptoCard

/-- THE SECOND FORM's CARD OF 'tantaluslaw06.SealTurned'. -/
def sealTurnedUptoCard : Claim7 := { stood := { row := sealTurnedUptoRow, standIns := [], harness := (true, "5920d9f51b291cca219c0198b3c54a947b38d3852b6b6a5db82c183152ead297"), looks := false }, kinds := [], alts := [], laidByText := true, laidKinds := [.data, .data, .data], laidTests := true, laidLooks := .later }
def SealTurnedUptoCardSaid : Prop := Claim7.holds Tryd.pinned (.plain (OpenSpec.upto sealTurnedSpec)) sealTurnedUptoCard
end Rows
end Go.Proofs.YthfpkdbhihcniaaDoor
