/- entries compared, cell by cell -/
import Derived.Test.YteokfgdennjjiaaEntCells
namespace Go.Proofs.Yteokfgdennjjiaa
open Go.ChangeShapes Go.WideShapes Go.ChangeAt Go.RowKit

def entEq (a b : Ent) : Bool := (a.user.toList == b.user.toList) && (a.seq == b.seq) && (a.kind == b.kind) && (a.val.toList == b.val.toList)
theorem toList_iff (a b : ByteArray) : a.toList = b.toList ↔ a = b := by
  constructor
  · intro h
    rw [ByteArray.toList_eq, ByteArray.toList_eq] at h
    exact ba_ext h
  · rintro rfl; rfl
theorem entEq_iff (a b : Ent) : entEq a b = true ↔ a = b := by
  obtain ⟨u, s, k, v⟩ := a
  obtain ⟨u', s', k', v'⟩ := b
  simp only [entEq, Bool.and_eq_true, beq_iff_eq, toList_iff, Ent.mk.injEq, and_assoc]
theorem ents_eql (h i : Ent) (w : World) : (binOp .eql 24 (.agg (entCells h).toArray) (.agg (entCells i).toArray)).run Try.prog w = .ok (.bool (entEq h i)) w := by
  have hu := Try.underlying24
  have hf0 : ∀ fs, Try.prog.underlying 24 = some (.struct fs) → Try.prog.fieldsOf 24 = fs := fun fs h => by unfold Program.fieldsOf; rw [h]
  have hf := hf0 _ hu
  rw [run_eql_struct, run_equalIn_struct w 9999 24 _ _ (by rw [hf]; exact hu) (by kernel_rfl), hf]
  rw [run_eqFieldS _ w 9998 _ _ _ _ h.user i.user (by decide) Try.underlying9 rfl rfl]
  rw [run_eqField _ w 9998 _ _ _ _ .u64 h.seq i.seq (by decide) Try.underlying22 rfl rfl]
  rw [run_eqField _ w 9998 _ _ _ _ .u8 h.kind i.kind (by decide) Try.underlying5 rfl rfl]
  rw [run_eqFieldS _ w 9998 _ _ _ _ h.val i.val (by decide) Try.underlying9 rfl rfl]
  simp only [int_beq, Op.eqFields, entEq]
  cases h.user.toList == i.user.toList <;> cases h.seq == i.seq <;> cases h.kind == i.kind <;> cases h.val.toList == i.val.toList <;> simp
end Go.Proofs.Yteokfgdennjjiaa
