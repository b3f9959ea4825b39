/- keys compared -/
import Derived.Test.YtpmkcjgndljhgaaDoorMore
import Derived.Laws.StructEq
import Derived.Stop.BytesEq

namespace Go.Proofs.YtpmkcjgndljhgaaDoor
open Go.ChangeShapes Go.WideShapes Go.ChangeAt Go.RowKit

theorem part_bytes {P : Program} {t e : TypeId} {n : Nat} (ht : P.underlying t = some (.array n e)) (hs : (P.info? t).map (·.size) = some n) (l : List UInt8) (o : Nat) (w : World) :
    (part t (bs l).toArray o).run P w = .ok (.agg (bs ((l.drop o).take n)).toArray) w := by
  obtain ⟨it, h1, h2⟩ := Option.map_eq_some_iff.1 hs
  simp [part, isAgg, run_underlying ht, sizeOf, typeInfo, h1, h2]
  simp [bs, List.map_take, List.map_drop]
/-- keys are compared half by half -/
theorem eqKey {K : List UInt8} (hK : K.length = 64) : ∀ w : World, (binOp .eql 44 (.agg (bs K).toArray) (.agg (bs K).toArray)).run Tryd.prog w = .ok (.bool true) w := fun w => by
  have hp := fun (l : List UInt8) (o : Nat) (w : World) => part_bytes (P := Tryd.prog) Tryd.underlying41 (by kernel_rfl) l o w
  have he := fun (x y : List UInt8) (w : World) (hx : x.length = 32) (hy : y.length = 32) => run_equalIn_bytes (P := Tryd.prog) w 9997 41 5 32 Tryd.underlying41 Tryd.underlying5 size25 x y hx hy
  have h1 := he (K.take 32) (K.take 32) w (by simp; omega) (by simp; omega)
  have h2 := he ((K.drop 32).take 32) ((K.drop 32).take 32) w (by simp; omega) (by simp; omega)
  have e1 : (Op.equalIn 9999 41 (.agg (bs (K.take 32)).toArray) (.agg (bs (K.take 32)).toArray)).run Tryd.prog w = .ok true w := by have h := h1; rw [beq_self_eq_true] at h; exact h
  have e2 : (Op.equalIn 9999 41 (.agg (bs ((K.drop 32).take 32)).toArray) (.agg (bs ((K.drop 32).take 32)).toArray)).run Tryd.prog w = .ok true w := by have h := h2; rw [beq_self_eq_true] at h; exact h
  rw [run_eql_struct, run_equalIn_struct (w := w) 9999 44 _ _ (by kernel_rfl) (by kernel_rfl)]
  unfold Program.fieldsOf
  rw [Tryd.underlying44]
  simp [Op.eqFields, hp]
  rw [e1]
  simp [e2]

end Go.Proofs.YtpmkcjgndljhgaaDoor
