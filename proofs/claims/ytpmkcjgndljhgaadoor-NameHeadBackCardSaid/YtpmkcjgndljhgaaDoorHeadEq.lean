/- heads compared -/
import Derived.Test.YtpmkcjgndljhgaaDoorNameRefH
import Derived.Test.YtpmkcjgndljhgaaDoorEqField
namespace Go.Proofs.YtpmkcjgndljhgaaDoor
open Go.ChangeShapes Go.WideShapes Go.ChangeAt Go.RowKit

def hdEq (h i : Hd) : Bool := (h.kind == i.kind) && (h.level == i.level) && (h.gen == i.gen) && (h.epoch == i.epoch) && (h.number == i.number)
theorem hdEq_iff (h i : Hd) : hdEq h i = true ↔ h = i := by
  obtain ⟨a, b, c, d, e⟩ := h
  obtain ⟨a', b', c', d', e'⟩ := i
  simp [hdEq, and_assoc]
set_option maxRecDepth 100000 in
theorem heads_eql (h i : Hd) (w : World) : (binOp .eql 32 (.agg (hdCells h).toArray) (.agg (hdCells i).toArray)).run Tryd.prog w = .ok (.bool (hdEq h i)) w := by
  have hu := Tryd.underlying32
  have hf0 : ∀ fs, Tryd.prog.underlying 32 = some (.struct fs) → Tryd.prog.fieldsOf 32 = fs := fun fs h => by unfold Program.fieldsOf; rw [h]
  have hf := hf0 _ hu
  rw [run_eql_struct, run_equalIn_struct w 9999 32 _ _ (by rw [hf]; exact hu) (by kernel_rfl), hf]
  rw [run_eqField _ w 9998 _ _ _ _ .u8 h.kind i.kind (by decide) Tryd.underlying5 rfl rfl]
  rw [run_eqField _ w 9998 _ _ _ _ .u8 h.level i.level (by decide) Tryd.underlying5 rfl rfl]
  rw [run_eqField _ w 9998 _ _ _ _ .u64 h.gen i.gen (by decide) Tryd.underlying22 rfl rfl]
  rw [run_eqField _ w 9998 _ _ _ _ .u64 h.epoch i.epoch (by decide) Tryd.underlying22 rfl rfl]
  rw [run_eqField _ w 9998 _ _ _ _ .u64 h.number i.number (by decide) Tryd.underlying22 rfl rfl]
  simp only [int_beq, Op.eqFields, hdEq]
  cases h.kind == i.kind <;> cases h.level == i.level <;> cases h.gen == i.gen <;> cases h.epoch == i.epoch <;> cases h.number == i.number <;> simp
end Go.Proofs.YtpmkcjgndljhgaaDoor
