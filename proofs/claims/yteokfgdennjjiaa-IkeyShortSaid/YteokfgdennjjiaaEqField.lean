/- structs compared, field by field. Nothing of the program. -/
import Derived.Test.YteokfgdennjjiaaBuilt
import Derived.Laws.StructEq
namespace Go.Proofs.Yteokfgdennjjiaa
open Go.ChangeShapes Go.WideShapes Go.ChangeAt Go.RowKit

theorem int_beq (a b : Nat) : ((a : Int) == (b : Int)) = (a == b) := by
  rw [Bool.eq_iff_iff, beq_iff_eq, beq_iff_eq]; omega
theorem run_eqField (P : Program) (w : World) (d : Nat) (f : Field) (fs : List Field) (xs ys : Array Value) (k : IntKind) (a b : Int) (hn : f.name ≠ "_") (hu : P.underlying f.type = some (.int k)) (hx : xs[f.offset]? = some (.int k a)) (hy : ys[f.offset]? = some (.int k b)) :
    (Op.eqFields (d + 1) xs ys (f :: fs)).run P w = if (a == b) = true then (Op.eqFields (d + 1) xs ys fs).run P w else .ok false w := by
  have px : (part f.type xs f.offset).run P w = .ok (.int k a) w := by simp [part, isAgg, run_underlying hu, hx]
  have py : (part f.type ys f.offset).run P w = .ok (.int k b) w := by simp [part, isAgg, run_underlying hu, hy]
  rw [Op.eqFields, if_pos hn]
  simp only [Sem.run_bind, px, py, Result.andThen_ok, run_equalIn_int w d f.type k k a b hu]
  cases hab : (a == b) <;> simp
theorem run_eqFieldS (P : Program) (w : World) (d : Nat) (f : Field) (fs : List Field) (xs ys : Array Value) (a b : ByteArray) (hn : f.name ≠ "_") (hu : P.underlying f.type = some .string) (hx : xs[f.offset]? = some (.string a)) (hy : ys[f.offset]? = some (.string b)) :
    (Op.eqFields (d + 1) xs ys (f :: fs)).run P w = if (a.toList == b.toList) = true then (Op.eqFields (d + 1) xs ys fs).run P w else .ok false w := by
  have px : (part f.type xs f.offset).run P w = .ok (.string a) w := by simp [part, isAgg, run_underlying hu, hx]
  have py : (part f.type ys f.offset).run P w = .ok (.string b) w := by simp [part, isAgg, run_underlying hu, hy]
  rw [Op.eqFields, if_pos hn]
  simp only [Sem.run_bind, px, py, Result.andThen_ok, run_equalIn_string w d f.type a b hu]
  cases hab : (a.toList == b.toList) <;> simp
end Go.Proofs.Yteokfgdennjjiaa
