/-
  DERIVED. GIVEN WITH THE SEED: THE CARDS: each row of YtcooibfnnjgjkaaDoorRows.lean that lists a variable, with what it lists TIED to the program's text (the seventh form; the later family's looks); each row that meets fmt, with fmt's text TOLD by the authors' own Lean function (tested against real Go, not proved from fmt's source: count such statements apart). THE CARD IS WHAT COUNTS. Prove the row's statement (the work); the ties are given (YtcooibfnnjgjkaaDoorTie.lean); close each card by the builder's one call (the guide's Derived/Test/ToyasCard.lean, 'card_holds'). Laid BY PROGRAM, IN A SANDBOX (cutbox-door.mjs). By AI agents, Wed Nov 11 2026. No macro, syntax, notation, axiom, sorry.
-/
import Derived.Test.YtcooibfnnjgjkaaDoorRows
import GoSem.ClaimSeven
namespace Go.Proofs.YtcooibfnnjgjkaaDoor
namespace Rows

/-- THE TIED CARD OF 'tantaluslaw05.StreamBlocks'. -/
def streamBlocksCard : Claim7 := { stood := { row := streamBlocksRow, standIns := [], harness := (true, "528fbfb480e108ff34ab137747d1c7546c4500c3a06d18e15666f3bcce34e8e5"), looks := false }, kinds := [], alts := [], laidByText := true, laidKinds := [.data], laidTests := true, laidLooks := .later }
def StreamBlocksCardSaid : Prop := Claim7.holds Tryd.pinned (.plain (OpenSpec.ofChange streamBlocksSpec)) streamBlocksCard

/-- THE TIED CARD OF 'tantaluslaw05.StreamCrosses'. -/
def streamCrossesCard : Claim7 := { stood := { row := streamCrossesRow, standIns := [], harness := (true, "528fbfb480e108ff34ab137747d1c7546c4500c3a06d18e15666f3bcce34e8e5"), looks := false }, kinds := [], alts := [], laidByText := true, laidKinds := [.data], laidTests := true, laidLooks := .later }
def StreamCrossesCardSaid : Prop := Claim7.holds Tryd.pinned (.plain (OpenSpec.ofChange streamCrossesSpec)) streamCrossesCard

/-- THE TIED CARD OF 'tantaluslaw05.StreamTwice'. -/
def streamTwiceCard : Claim7 := { stood := { row := streamTwiceRow, standIns := [], harness := (true, "528fbfb480e108ff34ab137747d1c7546c4500c3a06d18e15666f3bcce34e8e5"), looks := false }, kinds := [], alts := [], laidByText := true, laidKinds := [.data], laidTests := true, laidLooks := .later }
def StreamTwiceCardSaid : Prop := Claim7.holds Tryd.pinned (.plain (OpenSpec.ofChange streamTwiceSpec)) streamTwiceCard

/-- THE TIED CARD OF 'tantaluslaw05.StreamLater'. -/
def streamLaterCard : Claim7 := { stood := { row := streamLaterRow, standIns := [], harness := (true, "528fbfb480e108ff34ab137747d1c7546c4500c3a06d18e15666f3bcce34e8e5"), looks := false }, kinds := [], alts := [], laidByText := true, laidKinds := [.data], laidTests := true, laidLooks := .later }
def StreamLaterCardSaid : Prop := Claim7.holds Tryd.pinned (.plain (OpenSpec.ofChange streamLaterSpec)) streamLaterCard

/-- THE TIED CARD OF 'tantaluslaw05.StreamPlaces'. -/
def streamPlacesCard : Claim7 := { stood := { row := streamPlacesRow, standIns := [], harness := (true, "528fbfb480e108ff34ab137747d1c7546c4500c3a06d18e15666f3bcce34e8e5"), looks := false }, kinds := [], alts := [], laidByText := true, laidKinds := [.data], laidTests := true, laidLooks := .later }
def StreamPlacesCardSaid : Prop := Claim7.holds Tryd.pinned (.plain (OpenSpec.ofChange streamPlacesSpec)) streamPlacesCard

/-- THE SECOND FORM's CARD OF 'tantaluslaw05.StreamBlocks'. -/
def streamBlocksUptoCard : Claim7 := { stood := { row := streamBlocksUptoRow, standIns := [], harness := (true, "528fbfb480e108ff34ab137747d1c7546c4500c3a06d18e15666f3bcce34e8e5"), looks := false }, kinds := [], alts := [], laidByText := true, laidKinds := [.data], laidTests := true, laidLooks := .later }
def StreamBlocksUptoCardSaid : Prop := Claim7.holds Tryd.pinned (.plain (OpenSpec.upto streamBlocksSpec)) streamBlocksUptoCard

/-- THE SECOND FORM's CARD OF 'tantaluslaw05.StreamCrosses'. -/
def streamCrossesUptoCard : Claim7 := { stood := { row := streamCrossesUptoRow, standIns := [], harness := (true, "528fbfb480e108ff34ab137747d1c7546c4500c3a06d18e15666f3bcce34e8e5"), looks := false }, kinds := [], alts := [], laidByText := true, laidKinds := [.data], laidTests := true, laidLooks := .later }
def StreamCrossesUptoCardSaid : Prop := Claim7.holds Tryd.pinned (.plain (OpenSpec.upto streamCrossesSpec)) streamCrossesUptoCard

/-- THE SECOND FORM's CARD OF 'tantaluslaw05.StreamTwice'. -/
def streamTwiceUptoCard : Claim7 := { stood := { row := streamTwiceUptoRow, standIns := [], harness := (true, "528fbfb480e108ff34ab137747d1c7546c4500c3a06d18e15666f3bcce34e8e5"), looks := false }, kinds := [], alts := [], laidByText := true, laidKinds := [.data], laidTests := true, laidLooks := .later }
def StreamTwiceUptoCardSaid : Prop := Claim7.holds Tryd.pinned (.plain (OpenSpec.upto streamTwiceSpec)) streamTwiceUptoCard

/-- THE SECOND FORM's CARD OF 'tantaluslaw05.StreamLater'. -/
def streamLaterUptoCard : Claim7 := { stood := { row := streamLaterUptoRow, standIns := [], harness := (true, "528fbfb480e108ff34ab137747d1c7546c4500c3a06d18e15666f3bcce34e8e5"), looks := false }, kinds := [], alts := [], laidByText := true, laidKinds := [.data], laidTests := true, laidLooks := .later }
def StreamLaterUptoCardSaid : Prop := Claim7.holds Tryd.pinned (.plain (OpenSpec.upto streamLaterSpec)) streamLaterUptoCard

/-- THE SECOND FORM's CARD OF 'tantaluslaw05.StreamPlaces'. -/
def streamPlacesUptoCard : Claim7 := { stood := { row := streamPlacesUptoRow, standIns := [], harness := (true, "528fbfb480e108ff34ab137747d1c7546c4500c3a06d18e15666f3bcce34e8e5"), looks := false }, kinds := [], alts := [], laidByText := true, laidKinds := [.data], laidTests := true, laidLooks := .later }
def StreamPlacesUptoCardSaid : Prop := Claim7.holds Tryd.pinned (.plain (OpenSpec.upto streamPlacesSpec)) streamPlacesUptoCard
end Rows
end Go.Proofs.YtcooibfnnjgjkaaDoor
