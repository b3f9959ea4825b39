/- sha's tables as they were laid -/
import Derived.Test.YtpmkcjgndljhgaaDoorGOpMac
import Derived.Test.YtpmkcjgndljhgaaDoorLaid

namespace Go.Proofs.YtpmkcjgndljhgaaDoor
open Go.ChangeShapes Go.WideShapes Go.ChangeAt Go.RowKit

theorem kat_of {W : World} {g : Nat} (h : ∀ (i : Nat) (z : Int), (shaK.map fun n : Nat => (n : Int))[i]? = some z → W.cell? ⟨g, i, none⟩ = some (.int .u32 z)) : KAt W g := by
  intro i hi
  refine h i _ ?_
  rw [List.getElem?_map, List.getElem?_eq_getElem (by rw [shaK_length]; exact hi), getElem!_pos shaK i (by rw [shaK_length]; exact hi)]
  rfl
theorem stat_of {W : World} {g : Nat} (h : ∀ (i : Nat) (z : Int), (shaInit.list.map fun n : Nat => (n : Int))[i]? = some z → W.cell? ⟨g, i, none⟩ = some (.int .u32 z)) : StAt W g := by
  intro i hi
  refine h i _ ?_
  have hl : shaInit.list.length = 8 := rfl
  rw [List.getElem?_map, List.getElem?_eq_getElem (by omega), getElem!_pos shaInit.list i (by omega)]
  rfl
end Go.Proofs.YtpmkcjgndljhgaaDoor
