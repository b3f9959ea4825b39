/-
  NARROWER THAN 'FOR EVERY INPUT', by the rows' own cells (each row's printed sentence says how): StreamBlocks: laid · StreamCrosses: laid · StreamTwice: laid · StreamLater: laid · StreamPlaces: laid.
  DERIVED. THE GIVEN ROWS OF THIS SEAT. 5 by the template 'for every input the law returns true; each argument reads behind the call as it read before'; 0 by the template 'total and deterministic' (their statements: YtcooibfnnjgjkaaDoorTotals.lean).
  GIVEN WITH THE SEED: the statements are not yours to turn. If you find one false, say at which input.
  Laid BY PROGRAM, IN A SANDBOX (cutbox-rows.mjs): the forced cells as the released guide's own fill.sh prints them over the translation 539787fd5b62f021… (all of the seat's roots in one cut). By AI agents, Wed Nov 11 2026. No macro, syntax, notation, axiom, sorry.
-/
import Derived.Test.YtcooibfnnjgjkaaDoorChecked
import GoSem.Claim
import GoSem.ClaimJoined
import GoSem.ClaimMapViews
import Derived.JoinedTies
import Derived.KernelRfl
namespace Go.Proofs.YtcooibfnnjgjkaaDoor
/- THE CELL 'sum', in the pinned program and in every row, IS THE sha256 OF THE DUMP (.gsa) THAT YtcooibfnnjgjkaaDoorProg.lean LOADS. Nothing in Lean hashes anything: it is a label: what it is worth is what the hold of that sum in a sandbox is worth. -/
noncomputable def Tryd.pinned : Pinned := { name := "ytcooibfnnjgjkaadoor", sum := "539787fd5b62f021e2e9a8a9a81dba346aa9dd85431df84a7dbc218581480bd9", checked := Tryd.checked }
namespace Rows
def none {H : Type} : Left H := { results := [], args := [] }

/- WHAT THE LISTED PACKAGE-LEVEL VARIABLES READ AS WHEN THE CALL BEGINS. Each datum BY PROGRAM (the guide's laid-datum.mjs) off the statement by which the dump's own 'gosem.cut.vars' lays the variable. In a bare row this is a premise. The card (YtcooibfnnjgjkaaDoorCards.lean) ties it to the program's text. -/
def laid_tantalus_stream_start {H : Type} : DataW H := .agg [.lit (.int .u32 1634760805), .lit (.int .u32 857760878), .lit (.int .u32 2036477234), .lit (.int .u32 1797285236)]

/-- 'tantaluslaw05.StreamBlocks': WHATEVER THE INPUT: true; the input reads as it did. -/
def streamBlocksSpec : ChangeSpec := { name := "streamBlocks", fn := fun _ => fun
  | [d] => { results := [.lit (.bool true)], args := [d] }
  | _ => none }
def streamBlocksRow : OpenClaim := { program := "ytcooibfnnjgjkaadoor", sum := "539787fd5b62f021e2e9a8a9a81dba346aa9dd85431df84a7dbc218581480bd9", func := "tantalus/tantaluslaw05.StreamBlocks", spec := "streamBlocks", named := ["tantalus/stream.start"], apart := false, laid := [("tantalus/stream.start", laid_tantalus_stream_start)] }
def StreamBlocksSaid : Prop := streamBlocksRow.holds Tryd.pinned (OpenSpec.ofChange streamBlocksSpec)

/-- ITS FALSE NEIGHBOUR: 'it returns false'. Refute it at one input. -/
def streamBlocksWrong : ChangeSpec := { name := "streamBlocks", fn := fun _ => fun
  | [d] => { results := [.lit (.bool false)], args := [d] }
  | _ => none }
def StreamBlocksWrongFalsely : Prop := streamBlocksRow.holds Tryd.pinned (OpenSpec.ofChange streamBlocksWrong)

/-- 'tantaluslaw05.StreamCrosses': WHATEVER THE INPUT: true; the input reads as it did. -/
def streamCrossesSpec : ChangeSpec := { name := "streamCrosses", fn := fun _ => fun
  | [d1, d2] => { results := [.lit (.bool true)], args := [d1, d2] }
  | _ => none }
def streamCrossesRow : OpenClaim := { program := "ytcooibfnnjgjkaadoor", sum := "539787fd5b62f021e2e9a8a9a81dba346aa9dd85431df84a7dbc218581480bd9", func := "tantalus/tantaluslaw05.StreamCrosses", spec := "streamCrosses", named := ["tantalus/stream.start"], apart := false, laid := [("tantalus/stream.start", laid_tantalus_stream_start)] }
def StreamCrossesSaid : Prop := streamCrossesRow.holds Tryd.pinned (OpenSpec.ofChange streamCrossesSpec)

/-- ITS FALSE NEIGHBOUR: 'it returns false'. Refute it at one input. -/
def streamCrossesWrong : ChangeSpec := { name := "streamCrosses", fn := fun _ => fun
  | [d1, d2] => { results := [.lit (.bool false)], args := [d1, d2] }
  | _ => none }
def StreamCrossesWrongFalsely : Prop := streamCrossesRow.holds Tryd.pinned (OpenSpec.ofChange streamCrossesWrong)

/-- 'tantaluslaw05.StreamTwice': WHATEVER THE INPUT: true; the input reads as it did. -/
def streamTwiceSpec : ChangeSpec := { name := "streamTwice", fn := fun _ => fun
  | [d1, d2] => { results := [.lit (.bool true)], args := [d1, d2] }
  | _ => none }
def streamTwiceRow : OpenClaim := { program := "ytcooibfnnjgjkaadoor", sum := "539787fd5b62f021e2e9a8a9a81dba346aa9dd85431df84a7dbc218581480bd9", func := "tantalus/tantaluslaw05.StreamTwice", spec := "streamTwice", named := ["tantalus/stream.start"], apart := false, laid := [("tantalus/stream.start", laid_tantalus_stream_start)] }
def StreamTwiceSaid : Prop := streamTwiceRow.holds Tryd.pinned (OpenSpec.ofChange streamTwiceSpec)

/-- ITS FALSE NEIGHBOUR: 'it returns false'. Refute it at one input. -/
def streamTwiceWrong : ChangeSpec := { name := "streamTwice", fn := fun _ => fun
  | [d1, d2] => { results := [.lit (.bool false)], args := [d1, d2] }
  | _ => none }
def StreamTwiceWrongFalsely : Prop := streamTwiceRow.holds Tryd.pinned (OpenSpec.ofChange streamTwiceWrong)

/-- 'tantaluslaw05.StreamLater': WHATEVER THE INPUT: true; the input reads as it did. -/
def streamLaterSpec : ChangeSpec := { name := "streamLater", fn := fun _ => fun
  | [d1, d2, d3] => { results := [.lit (.bool true)], args := [d1, d2, d3] }
  | _ => none }
def streamLaterRow : OpenClaim := { program := "ytcooibfnnjgjkaadoor", sum := "539787fd5b62f021e2e9a8a9a81dba346aa9dd85431df84a7dbc218581480bd9", func := "tantalus/tantaluslaw05.StreamLater", spec := "streamLater", named := ["tantalus/stream.start"], apart := false, laid := [("tantalus/stream.start", laid_tantalus_stream_start)] }
def StreamLaterSaid : Prop := streamLaterRow.holds Tryd.pinned (OpenSpec.ofChange streamLaterSpec)

/-- ITS FALSE NEIGHBOUR: 'it returns false'. Refute it at one input. -/
def streamLaterWrong : ChangeSpec := { name := "streamLater", fn := fun _ => fun
  | [d1, d2, d3] => { results := [.lit (.bool false)], args := [d1, d2, d3] }
  | _ => none }
def StreamLaterWrongFalsely : Prop := streamLaterRow.holds Tryd.pinned (OpenSpec.ofChange streamLaterWrong)

/-- 'tantaluslaw05.StreamPlaces': WHATEVER THE INPUT: true; the input reads as it did. -/
def streamPlacesSpec : ChangeSpec := { name := "streamPlaces", fn := fun _ => fun
  | [d1, d2, d3] => { results := [.lit (.bool true)], args := [d1, d2, d3] }
  | _ => none }
def streamPlacesRow : OpenClaim := { program := "ytcooibfnnjgjkaadoor", sum := "539787fd5b62f021e2e9a8a9a81dba346aa9dd85431df84a7dbc218581480bd9", func := "tantalus/tantaluslaw05.StreamPlaces", spec := "streamPlaces", named := ["tantalus/stream.start"], apart := false, laid := [("tantalus/stream.start", laid_tantalus_stream_start)] }
def StreamPlacesSaid : Prop := streamPlacesRow.holds Tryd.pinned (OpenSpec.ofChange streamPlacesSpec)

/-- ITS FALSE NEIGHBOUR: 'it returns false'. Refute it at one input. -/
def streamPlacesWrong : ChangeSpec := { name := "streamPlaces", fn := fun _ => fun
  | [d1, d2, d3] => { results := [.lit (.bool false)], args := [d1, d2, d3] }
  | _ => none }
def StreamPlacesWrongFalsely : Prop := streamPlacesRow.holds Tryd.pinned (OpenSpec.ofChange streamPlacesWrong)

/- THE SECOND FORM. 'bulk': how many values and letters a reading holds, each counted each time it is reached (what is shared counts as often as it is met; a slice's spare places count too). A statement '..UptoSaid' is the law's where the arguments, and the package variables that the reading takes, are together of bulk at most 1048576: NARROWER than '..Said'. Prove '..Said' where nothing that the law and all that it calls make is longer than what came in: it says more and counts as full. Else prove '..UptoSaid'. A law counts once. -/
mutual
def uptoBulk {H : Type} : DataW H → Nat
  | .lit (.string bytes) => bytes.length + 1
  | .lit _ => 1
  | .nil => 1
  | .ptr d => uptoBulk d + 1
  | .slice elems spare => uptoBulkAll elems + uptoBulkAll spare + 1
  | .agg parts => uptoBulkAll parts + 1
  | .iface _ d => uptoBulk d + 1
  | .map entries => uptoBulkEntries entries + 1
  | .held _ => 1
def uptoBulkAll {H : Type} : List (DataW H) → Nat
  | [] => 0
  | d :: r => uptoBulk d + uptoBulkAll r
def uptoBulkEntries {H : Type} : List (Lit × DataW H) → Nat
  | [] => 0
  | x :: r => uptoBulkEntry x + uptoBulkEntries r
def uptoBulkEntry {H : Type} : Lit × DataW H → Nat
  | (.string bytes, d) => bytes.length + uptoBulk d + 1
  | (_, d) => uptoBulk d + 1
 end
def uptoSmall : (H : Type) → List (DataW H) → Bool := fun _ ds => decide (uptoBulkAll ds ≤ 1048576)
def OpenSpec.upto (s : _root_.Go.ChangeSpec) : _root_.Go.OpenSpec := { _root_.Go.OpenSpec.ofChange s with cond := some uptoSmall }

/-- 'tantaluslaw05.StreamBlocks', WHERE WHAT IT READS IS OF BULK AT MOST 1048576: true; the input reads as it did. -/
def streamBlocksUptoRow : OpenClaim := { program := "ytcooibfnnjgjkaadoor", sum := "539787fd5b62f021e2e9a8a9a81dba346aa9dd85431df84a7dbc218581480bd9", func := "tantalus/tantaluslaw05.StreamBlocks", spec := "streamBlocks", named := ["tantalus/stream.start"], apart := false, laid := [("tantalus/stream.start", laid_tantalus_stream_start)], narrowed := true }
def StreamBlocksUptoSaid : Prop := streamBlocksUptoRow.holds Tryd.pinned (OpenSpec.upto streamBlocksSpec)

/-- 'tantaluslaw05.StreamCrosses', WHERE WHAT IT READS IS OF BULK AT MOST 1048576: true; the input reads as it did. -/
def streamCrossesUptoRow : OpenClaim := { program := "ytcooibfnnjgjkaadoor", sum := "539787fd5b62f021e2e9a8a9a81dba346aa9dd85431df84a7dbc218581480bd9", func := "tantalus/tantaluslaw05.StreamCrosses", spec := "streamCrosses", named := ["tantalus/stream.start"], apart := false, laid := [("tantalus/stream.start", laid_tantalus_stream_start)], narrowed := true }
def StreamCrossesUptoSaid : Prop := streamCrossesUptoRow.holds Tryd.pinned (OpenSpec.upto streamCrossesSpec)

/-- 'tantaluslaw05.StreamTwice', WHERE WHAT IT READS IS OF BULK AT MOST 1048576: true; the input reads as it did. -/
def streamTwiceUptoRow : OpenClaim := { program := "ytcooibfnnjgjkaadoor", sum := "539787fd5b62f021e2e9a8a9a81dba346aa9dd85431df84a7dbc218581480bd9", func := "tantalus/tantaluslaw05.StreamTwice", spec := "streamTwice", named := ["tantalus/stream.start"], apart := false, laid := [("tantalus/stream.start", laid_tantalus_stream_start)], narrowed := true }
def StreamTwiceUptoSaid : Prop := streamTwiceUptoRow.holds Tryd.pinned (OpenSpec.upto streamTwiceSpec)

/-- 'tantaluslaw05.StreamLater', WHERE WHAT IT READS IS OF BULK AT MOST 1048576: true; the input reads as it did. -/
def streamLaterUptoRow : OpenClaim := { program := "ytcooibfnnjgjkaadoor", sum := "539787fd5b62f021e2e9a8a9a81dba346aa9dd85431df84a7dbc218581480bd9", func := "tantalus/tantaluslaw05.StreamLater", spec := "streamLater", named := ["tantalus/stream.start"], apart := false, laid := [("tantalus/stream.start", laid_tantalus_stream_start)], narrowed := true }
def StreamLaterUptoSaid : Prop := streamLaterUptoRow.holds Tryd.pinned (OpenSpec.upto streamLaterSpec)

/-- 'tantaluslaw05.StreamPlaces', WHERE WHAT IT READS IS OF BULK AT MOST 1048576: true; the input reads as it did. -/
def streamPlacesUptoRow : OpenClaim := { program := "ytcooibfnnjgjkaadoor", sum := "539787fd5b62f021e2e9a8a9a81dba346aa9dd85431df84a7dbc218581480bd9", func := "tantalus/tantaluslaw05.StreamPlaces", spec := "streamPlaces", named := ["tantalus/stream.start"], apart := false, laid := [("tantalus/stream.start", laid_tantalus_stream_start)], narrowed := true }
def StreamPlacesUptoSaid : Prop := streamPlacesUptoRow.holds Tryd.pinned (OpenSpec.upto streamPlacesSpec)

end Rows
end Go.Proofs.YtcooibfnnjgjkaaDoor
