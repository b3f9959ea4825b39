/- package name: all that is asked of its functions -/
import Derived.Test.YtpmkcjgndljhgaaDoorNameC
import Derived.Test.YtpmkcjgndljhgaaDoorNameOpP
import Derived.Test.YtpmkcjgndljhgaaDoorNameOpT
import Derived.Test.YtpmkcjgndljhgaaDoorNameOpN
import Derived.Test.YtpmkcjgndljhgaaDoorPowOf

namespace Go.Proofs.YtpmkcjgndljhgaaDoor
open Go.ChangeShapes Go.WideShapes Go.ChangeAt Go.RowKit

theorem nameC : NameC PowT where
  tf := PowT.tf
  name := fun kind n w hk hn ht => name_any kind n w hk hn ht
  parse := fun s w _ ht => parse_any s w ht
  right := fun h w _ => right_any h w
  lay := fun h w hk => lay_any h w hk
  take := fun v l w hv _ => take_any v l w hv
  nonce := fun p w hp => nonce_any p w hp
end Go.Proofs.YtpmkcjgndljhgaaDoor
