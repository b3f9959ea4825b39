/-
  DERIVED. GIVEN WITH THE SEED: THE CARDS: each row of YtpmkcjgndljhgaaDoorRows.lean that lists a variable, with what it lists TIED to the program's text (the seventh form; the later family's looks); each row that meets fmt, with fmt's text TOLD by the authors' own Lean function (tested against real Go, not proved from fmt's source: count such statements apart). THE CARD IS WHAT COUNTS. Prove the row's statement (the work); the ties are given (YtpmkcjgndljhgaaDoorTie.lean); close each card by the builder's one call (the guide's Derived/Test/ToyasCard.lean, 'card_holds'). Laid BY PROGRAM, IN A SANDBOX (cutbox-door.mjs). By AI agents, Wed Nov 11 2026. No macro, syntax, notation, axiom, sorry.
-/
import Derived.Test.YtpmkcjgndljhgaaDoorRows
import GoSem.ClaimSeven
namespace Go.Proofs.YtpmkcjgndljhgaaDoor
namespace Rows

/-- THE TIED CARD OF 'tantaluslaw07.NameNames'. -/
def nameNamesCard : Claim7 := { stood := { row := nameNamesRow, standIns := [], harness := (true, "0c8e0dcf0096d9f12749273186f3b9c6a1f4f12de1c509cce9ecd22ca43d7e8d"), looks := false }, kinds := [], alts := [], laidByText := true, laidKinds := [.data, .data, .data], laidTests := true, laidLooks := .later }
def NameNamesCardSaid : Prop := Claim7.holds Tryd.pinned (.plain (OpenSpec.ofChange nameNamesSpec)) nameNamesCard

/-- THE TIED CARD OF 'tantaluslaw07.NameParses'. -/
def nameParsesCard : Claim7 := { stood := { row := nameParsesRow, standIns := [], harness := (true, "0c8e0dcf0096d9f12749273186f3b9c6a1f4f12de1c509cce9ecd22ca43d7e8d"), looks := false }, kinds := [], alts := [], laidByText := true, laidKinds := [.data, .data, .data], laidTests := true, laidLooks := .later }
def NameParsesCardSaid : Prop := Claim7.holds Tryd.pinned (.plain (OpenSpec.ofChange nameParsesSpec)) nameParsesCard

/-- THE TIED CARD OF 'tantaluslaw07.NameBack'. -/
def nameBackCard : Claim7 := { stood := { row := nameBackRow, standIns := [], harness := (true, "0c8e0dcf0096d9f12749273186f3b9c6a1f4f12de1c509cce9ecd22ca43d7e8d"), looks := false }, kinds := [], alts := [], laidByText := true, laidKinds := [.data, .data, .data], laidTests := true, laidLooks := .later }
def NameBackCardSaid : Prop := Claim7.holds Tryd.pinned (.plain (OpenSpec.ofChange nameBackSpec)) nameBackCard

/-- THE TIED CARD OF 'tantaluslaw07.NameHeads'. -/
def nameHeadsCard : Claim7 := { stood := { row := nameHeadsRow, standIns := [], harness := (true, "0c8e0dcf0096d9f12749273186f3b9c6a1f4f12de1c509cce9ecd22ca43d7e8d"), looks := false }, kinds := [], alts := [], laidByText := true, laidKinds := [.data, .data, .data], laidTests := true, laidLooks := .later }
def NameHeadsCardSaid : Prop := Claim7.holds Tryd.pinned (.plain (OpenSpec.ofChange nameHeadsSpec)) nameHeadsCard

/-- THE TIED CARD OF 'tantaluslaw07.NameHeadBack'. -/
def nameHeadBackCard : Claim7 := { stood := { row := nameHeadBackRow, standIns := [], harness := (true, "0c8e0dcf0096d9f12749273186f3b9c6a1f4f12de1c509cce9ecd22ca43d7e8d"), looks := false }, kinds := [], alts := [], laidByText := true, laidKinds := [.data, .data, .data], laidTests := true, laidLooks := .later }
def NameHeadBackCardSaid : Prop := Claim7.holds Tryd.pinned (.plain (OpenSpec.ofChange nameHeadBackSpec)) nameHeadBackCard

/-- THE TIED CARD OF 'tantaluslaw07.NameKeys'. -/
def nameKeysCard : Claim7 := { stood := { row := nameKeysRow, standIns := [], harness := (true, "0c8e0dcf0096d9f12749273186f3b9c6a1f4f12de1c509cce9ecd22ca43d7e8d"), looks := false }, kinds := [], alts := [], laidByText := true, laidKinds := [.data, .data, .data, .data, .data, .data], laidTests := true, laidLooks := .later }
def NameKeysCardSaid : Prop := Claim7.holds Tryd.pinned (.plain (OpenSpec.ofChange nameKeysSpec)) nameKeysCard

/-- THE TIED CARD OF 'tantaluslaw07.NameNonces'. -/
def nameNoncesCard : Claim7 := { stood := { row := nameNoncesRow, standIns := [], harness := (true, "0c8e0dcf0096d9f12749273186f3b9c6a1f4f12de1c509cce9ecd22ca43d7e8d"), looks := false }, kinds := [], alts := [], laidByText := true, laidKinds := [.data, .data, .data], laidTests := true, laidLooks := .later }
def NameNoncesCardSaid : Prop := Claim7.holds Tryd.pinned (.plain (OpenSpec.ofChange nameNoncesSpec)) nameNoncesCard

/-- THE SECOND FORM's CARD OF 'tantaluslaw07.NameNames'. -/
def nameNamesUptoCard : Claim7 := { stood := { row := nameNamesUptoRow, standIns := [], harness := (true, "0c8e0dcf0096d9f12749273186f3b9c6a1f4f12de1c509cce9ecd22ca43d7e8d"), looks := false }, kinds := [], alts := [], laidByText := true, laidKinds := [.data, .data, .data], laidTests := true, laidLooks := .later }
def NameNamesUptoCardSaid : Prop := Claim7.holds Tryd.pinned (.plain (OpenSpec.upto nameNamesSpec)) nameNamesUptoCard

/-- THE SECOND FORM's CARD OF 'tantaluslaw07.NameParses'. -/
def nameParsesUptoCard : Claim7 := { stood := { row := nameParsesUptoRow, standIns := [], harness := (true, "0c8e0dcf0096d9f12749273186f3b9c6a1f4f12de1c509cce9ecd22ca43d7e8d"), looks := false }, kinds := [], alts := [], laidByText := true, laidKinds := [.data, .data, .data], laidTests := true, laidLooks := .later }
def NameParsesUptoCardSaid : Prop := Claim7.holds Tryd.pinned (.plain (OpenSpec.upto nameParsesSpec)) nameParsesUptoCard

/-- THE SECOND FORM's CARD OF 'tantaluslaw07.NameBack'. -/
def nameBackUptoCard : Claim7 := { stood := { row := nameBackUptoRow, standIns := [], harness := (true, "0c8e0dcf0096d9f12749273186f3b9c6a1f4f12de1c509cce9ecd22ca43d7e8d"), looks := false }, kinds := [], alts := [], laidByText := true, laidKinds := [.data, .data, .data], laidTests := true, laidLooks := .later }
def NameBackUptoCardSaid : Prop := Claim7.holds Tryd.pinned (.plain (OpenSpec.upto nameBackSpec)) nameBackUptoCard

/-- THE SECOND FORM's CARD OF 'tantaluslaw07.NameHeads'. -/
def nameHeadsUptoCard : Claim7 := { stood := { row := nameHeadsUptoRow, standIns := [], harness := (true, "0c8e0dcf0096d9f12749273186f3b9c6a1f4f12de1c509cce9ecd22ca43d7e8d"), looks := false }, kinds := [], alts := [], laidByText := true, laidKinds := [.data, .data, .data], laidTests := true, laidLooks := .later }
def NameHeadsUptoCardSaid : Prop := Claim7.holds Tryd.pinned (.plain (OpenSpec.upto nameHeadsSpec)) nameHeadsUptoCard

/-- THE SECOND FORM's CARD OF 'tantaluslaw07.NameHeadBack'. -/
def nameHeadBackUptoCard : Claim7 := { stood := { row := nameHeadBackUptoRow, standIns := [], harness := (true, "0c8e0dcf0096d9f12749273186f3b9c6a1f4f12de1c509cce9ecd22ca43d7e8d"), looks := false }, kinds := [], alts := [], laidByText := true, laidKinds := [.data, .data, .data], laidTests := true, laidLooks := .later }
def NameHeadBackUptoCardSaid : Prop := Claim7.holds Tryd.pinned (.plain (OpenSpec.upto nameHeadBackSpec)) nameHeadBackUptoCard

/-- THE SECOND FORM's CARD OF 'tantaluslaw07.NameKeys'. -/
def nameKeysUptoCard : Claim7 := { stood := { row := nameKeysUptoRow, standIns := [], harness := (true, "0c8e0dcf0096d9f12749273186f3b9c6a1f4f12de1c509cce9ecd22ca43d7e8d"), looks := false }, kinds := [], alts := [], laidByText := true, laidKinds := [.data, .data, .data, .data, .data, .data], laidTests := true, laidLooks := .later }
def NameKeysUptoCardSaid : Prop := Claim7.holds Tryd.pinned (.plain (OpenSpec.upto nameKeysSpec)) nameKeysUptoCard

/-- THE SECOND FORM's CARD OF 'tantaluslaw07.NameNonces'. -/
def nameNoncesUptoCard : Claim7 := { stood := { row := nameNoncesUptoRow, standIns := [], harness := (true, "0c8e0dcf0096d9f12749273186f3b9c6a1f4f12de1c509cce9ecd22ca43d7e8d"), looks := false }, kinds := [], alts := [], laidByText := true, laidKinds := [.data, .data, .data], laidTests := true, laidLooks := .later }
def NameNoncesUptoCardSaid : Prop := Claim7.holds Tryd.pinned (.plain (OpenSpec.upto nameNoncesSpec)) nameNoncesUptoCard
end Rows
end Go.Proofs.YtpmkcjgndljhgaaDoor
