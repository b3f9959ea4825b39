/- layer 3: the laws, over the landed code -/
import Derived.Test.YtelagmelnkdheaaDoorShaOpG
import Derived.Test.YtelagmelnkdheaaDoorLaid
import Derived.Test.YtelagmelnkdheaaDoorLaw03A
import Derived.Test.YtelagmelnkdheaaDoorLaw03B
import Derived.Test.YtelagmelnkdheaaDoorLaw03C
import Derived.Test.YtelagmelnkdheaaDoorLaw03E
import Derived.Stop.Joined
namespace Go.Proofs.YtelagmelnkdheaaDoor
open Go.ChangeShapes Go.WideShapes Go.ChangeAt Go.RowKit

theorem kat_of {W : World} {g : Nat} (h : ∀ (i : Nat) (z : Int), (shaK.map fun n : Nat => (n : Int))[i]? = some z → W.cell? ⟨g, i, none⟩ = some (.int .u32 z)) : KAt W g := by
  intro i hi
  refine h i _ ?_
  rw [List.getElem?_map, List.getElem?_eq_getElem (by rw [shaK_length]; exact hi), getElem!_pos shaK i (by rw [shaK_length]; exact hi)]
  rfl
theorem stat_of {W : World} {g : Nat} (h : ∀ (i : Nat) (z : Int), (shaInit.list.map fun n : Nat => (n : Int))[i]? = some z → W.cell? ⟨g, i, none⟩ = some (.int .u32 z)) : StAt W g := by
  intro i hi
  refine h i _ ?_
  have hl : shaInit.list.length = 8 := rfl
  rw [List.getElem?_map, List.getElem?_eq_getElem (by omega), getElem!_pos shaInit.list i (by omega)]
  rfl
theorem shaT_3 {W : World} (h : laidMetH Tryd.prog Rows.shaSumsRow.laid W) : ShaT W ∧ KAt W 1 := by
  obtain ⟨ps, h, -⟩ := h
  obtain ⟨⟨q1, h1⟩, f1⟩ := laid_cons h
  obtain ⟨⟨q2, h2⟩, f2⟩ := laid_cons h1
  obtain ⟨-, f3⟩ := laid_cons h2
  refine ⟨⟨kat_of ?_, stat_of ?_⟩, kat_of ?_⟩
  · exact f2 (t := 52) (n := 64) (zs := shaK.map fun n : Nat => (n : Int)) rfl (by kernel_rfl) (by kernel_rfl) (by kernel_rfl) Tryd.underlying39 (by kernel_rfl)
  · exact f1 (t := 40) (n := 8) (zs := shaInit.list.map fun n : Nat => (n : Int)) rfl (by kernel_rfl) (by kernel_rfl) (by kernel_rfl) Tryd.underlying39 (by kernel_rfl)
  · exact f3 (t := 52) (n := 64) (zs := shaK.map fun n : Nat => (n : Int)) rfl (by kernel_rfl) (by kernel_rfl) (by kernel_rfl) Tryd.underlying39 (by kernel_rfl)
theorem shaT_2 {W : World} (h : laidMetH Tryd.prog Rows.shaNilRow.laid W) : ShaT W := by
  obtain ⟨ps, h, -⟩ := h
  obtain ⟨⟨q1, h1⟩, f1⟩ := laid_cons h
  obtain ⟨-, f2⟩ := laid_cons h1
  refine ⟨kat_of ?_, stat_of ?_⟩
  · exact f2 (t := 52) (n := 64) (zs := shaK.map fun n : Nat => (n : Int)) rfl (by kernel_rfl) (by kernel_rfl) (by kernel_rfl) Tryd.underlying39 (by kernel_rfl)
  · exact f1 (t := 40) (n := 8) (zs := shaInit.list.map fun n : Nat => (n : Int)) rfl (by kernel_rfl) (by kernel_rfl) (by kernel_rfl) Tryd.underlying39 (by kernel_rfl)
theorem shown3_all (w : World) (h : ShaT w) : Calls Tryd.prog 8 #[] w fun e w' => e = .returned (.bool true) ∧ Fr Non w w' := shown3_any shaC (by omega) w h
theorem sums3_any (W : World) (v : Value) (l : List UInt8) (hL : laidMetH Tryd.prog Rows.shaSumsRow.laid W) (hv : Row W v (bs l)) (hl : l.length ≤ 140737488351232) :
    Calls Tryd.prog 3 #[v] W fun e w' => e = .returned (.bool true) ∧ Fr Non W w' :=
  sums3w shaC shown3_all W v l (shaT_3 hL).1 (shaT_3 hL).2 hv hl (by omega) hl
theorem states3_any (W : World) (v : Value) (ls : List (List UInt8)) (hL : laidMetH Tryd.prog Rows.shaStatesRow.laid W) (hv : Rows2 W v ls) :
    Calls Tryd.prog 4 #[v] W fun e w' => e = .returned (.bool true) ∧ Fr Non W w' :=
  states3w shaC shown3_all W v ls (shaT_3 hL).1 (shaT_3 hL).2 hv (by omega)
theorem apart3_any (W : World) (v : Value) (b : List UInt8) (u : Value) (m : List UInt8) (hL : laidMetH Tryd.prog Rows.shaApartRow.laid W) (hv : Row W v (bs b)) (hl : b.length ≤ 140737488351232) (hu : Row W u (bs m)) (hm : m.length ≤ 140737488351232) :
    Calls Tryd.prog 6 #[v, u] W fun e w' => e = .returned (.bool true) ∧ Fr Non W w' :=
  apart3w shaC shown3_all W v u b m (shaT_2 hL) hv hu hl hm (by omega) hl hm
theorem nil3_any (W : World) (v : Value) (l : List UInt8) (hL : laidMetH Tryd.prog Rows.shaNilRow.laid W) (hv : Row W v (bs l)) (_ : l.length ≤ 140737488351232) :
    Calls Tryd.prog 7 #[v] W fun e w' => e = .returned (.bool true) ∧ Fr Non W w' :=
  nil3w shaC shown3_all W v l (shaT_2 hL) hv
end Go.Proofs.YtelagmelnkdheaaDoor
