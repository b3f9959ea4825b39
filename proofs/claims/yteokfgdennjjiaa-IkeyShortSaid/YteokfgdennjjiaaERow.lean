/- slices of entries; which rise. Nothing of the program. -/
import Derived.Test.YteokfgdennjjiaaEntCells
import Derived.Test.YteokfgdennjjiaaSRow
namespace Go.Proofs.Yteokfgdennjjiaa
open Go.ChangeShapes Go.WideShapes Go.ChangeAt Go.RowKit

def ERow (w : World) (v : Value) (es : List Ent) : Prop := SRow 4 w v (es.map entCells)
theorem entRises_drop {es : List Ent} {i : Nat} (h : i + 1 < es.length) : entRises (es.drop i) = (entAhead es[i] es[i + 1] && entRises (es.drop (i + 1))) := by
  rw [List.drop_eq_getElem_cons (show i < es.length by omega), List.drop_eq_getElem_cons h, entRises]
theorem entRises_last {es : List Ent} {i : Nat} (h : ¬ i + 1 < es.length) : entRises (es.drop i) = true := by
  by_cases h2 : i < es.length
  · rw [List.drop_eq_getElem_cons h2, List.drop_eq_nil_of_le (by omega)]; rfl
  · rw [List.drop_eq_nil_of_le (by omega)]; rfl
end Go.Proofs.Yteokfgdennjjiaa
