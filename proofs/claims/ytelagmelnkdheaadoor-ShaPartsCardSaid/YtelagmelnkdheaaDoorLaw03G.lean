/- layer 3: the law of parts, over the landed code -/
import Derived.Test.YtelagmelnkdheaaDoorLaw03F
import Derived.Test.YtelagmelnkdheaaDoorLaw03D
namespace Go.Proofs.YtelagmelnkdheaaDoor
open Go.ChangeShapes Go.WideShapes Go.ChangeAt Go.RowKit
theorem parts3_any (W : World) (v : Value) (l : List UInt8) (cut : Nat) (hL : laidMetH Tryd.prog Rows.shaPartsRow.laid W) (hv : Row W v (bs l)) (hl : l.length ≤ 140737488351232) (hc : (cut : Int) ≤ IntKind.u64.max) :
    Calls Tryd.prog 5 #[v, .int .u64 cut] W fun e w' => e = .returned (.bool true) ∧ Fr Non W w' :=
  parts3w shaC shown3_all W v l cut (shaT_2 hL) hv hl hc (by omega) hl
end Go.Proofs.YtelagmelnkdheaaDoor
