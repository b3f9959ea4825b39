/- package ikey: its contracts hold -/
import Derived.Test.YteokfgdennjjiaaIkeyC
import Derived.Test.YteokfgdennjjiaaIkeyOpB
import Derived.Test.YteokfgdennjjiaaIkeyOpL
import Derived.Test.YteokfgdennjjiaaIkeyOpT
import Derived.Test.YteokfgdennjjiaaIkeyOpK
import Derived.Test.YteokfgdennjjiaaIkeyOpS
namespace Go.Proofs.Yteokfgdennjjiaa
open Go.ChangeShapes Go.WideShapes Go.ChangeAt Go.RowKit

theorem ikeyC : IkeyC where
  right e w _ := entRightC_any e w
  compare a b w _ _ := entCmpC_any a b w
  lay e w h := entLayC_any e w h
  take s w h := entTakeC_any s w h
  between a b w ha _ := betweenC_any a b w ha
  after a w ha := afterC_any a w ha
  rises v es w hv _ := risesC_any v es w hv
end Go.Proofs.Yteokfgdennjjiaa
