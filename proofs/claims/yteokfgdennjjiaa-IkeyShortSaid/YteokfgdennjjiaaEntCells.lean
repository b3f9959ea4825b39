/- entries as cells -/
import Derived.Test.YteokfgdennjjiaaIkeyMath
import Derived.Test.YteokfgdennjjiaaBlk
import Derived.Test.YteokfgdennjjiaaWords
import Derived.Test.YteokfgdennjjiaaEqField
namespace Go.Proofs.Yteokfgdennjjiaa
open Go.ChangeShapes Go.WideShapes Go.ChangeAt Go.RowKit

def entCells (e : Ent) : List Value := [.string e.user, .int .u64 e.seq, .int .u8 e.kind, .string e.val]
theorem entCells_at {w : World} {B : Nat} {e : Ent} {t : TypeId} (b : Blk w B t (entCells e)) : w.cell? ⟨B, 0, none⟩ = some (.string e.user) ∧ w.cell? ⟨B, 1, none⟩ = some (.int .u64 e.seq) ∧ w.cell? ⟨B, 2, none⟩ = some (.int .u8 e.kind) ∧ w.cell? ⟨B, 3, none⟩ = some (.string e.val) :=
  ⟨(b.at 0 _ rfl).1, (b.at 1 _ rfl).1, (b.at 2 _ rfl).1, (b.at 3 _ rfl).1⟩
theorem ent_one (e : Ent) : ∀ v ∈ entCells e, v.oneCell' = true := by intro v hv; simp only [entCells, List.mem_cons, List.not_mem_nil, or_false] at hv; rcases hv with rfl | rfl | rfl | rfl <;> rfl
theorem beq_toList_ne' {a b : ByteArray} (h : ¬ a = b) : (a.toList == b.toList) = false := by
  simp only [ByteArray.toList_eq, beq_eq_false_iff_ne]
  exact fun e => h (ByteArray.ext (Array.toList_inj.mp e))
theorem int_ne {a b : Nat} (h : ¬ a = b) : ((a : Int) == (b : Int)) = false := by simp only [beq_eq_false_iff_ne]; omega
end Go.Proofs.Yteokfgdennjjiaa
