/- a literal of parts of several cells each; a guard that is met. Nothing of the program. -/
import Derived.Test.YtpmkcjgndljhgaaDoorBlk

namespace Go.Proofs.YtpmkcjgndljhgaaDoor
open Go.ChangeShapes Go.WideShapes Go.ChangeAt Go.RowKit
theorem fold_set : ∀ (X : List Value) (k o : Nat) (L : List Value), o + k + X.length ≤ L.length → (X.zipIdx k).foldl (fun (cs : Array Value) (p : Value × Nat) => cs.setIfInBounds (o + p.2) p.1) L.toArray = (splice L (o + k) X).toArray
  | [], k, o, L, _ => by simp [splice]
  | x :: X, k, o, L, h => by
    simp only [List.length_cons] at h
    have ih := fold_set X (k + 1) o (L.set (o + k) x) (by simp; omega)
    rw [List.zipIdx_cons, List.foldl_cons, List.setIfInBounds_toArray, ih, ← Nat.add_assoc, splice_cons L (o + k) x X (by simp; omega)]
theorem fill_one (place : Nat → Option (Nat × Nat)) (L : List Value) (i o n : Nat) (X : List Value) (rest : List (Nat × Value)) (hp : place i = some (o, n)) (hn : X.length = n) (hL : o + n ≤ L.length) :
    Instr.fill place L.toArray ((i, .agg X.toArray) :: rest) = Instr.fill place (splice L o X).toArray rest := by
  have h := fold_set X 0 o L (by omega)
  rw [Instr.fill, hp]
  simp only [Value.cells, List.size_toArray]
  rw [if_neg (by simp; omega), ← Array.foldl_toList, Array.toList_zipIdx]
  rw [Nat.add_zero] at h
  rw [← h]
theorem splice_two {α : Type} (L X Y : List α) (h : L.length = X.length + Y.length) : splice (splice L 0 X) X.length Y = X ++ Y := by
  unfold splice
  rw [List.take_zero, List.nil_append, Nat.zero_add, List.take_left, List.drop_of_length_le (by simp; omega), List.append_nil]
section
variable {P : Program}
theorem built_two {t : TypeId} {it : TypeInfo} {fs : Array Field} {Z : List Value} {n m : Nat} (hit : P.info? t = some it) (hz : it.zero = some (.agg Z.toArray)) (hu : P.underlying t = some (.struct fs))
    (hpl : fs.toList.mapM (fun f => (P.info? f.type).map fun i => (f.offset, i.size)) = some [(0, n), (n, m)]) (X Y : List Value) (hX : X.length = n) (hY : Y.length = m) (hZ : Z.length = n + m) :
    P.built t [(0, .agg X.toArray), (1, .agg Y.toArray)] = some (X ++ Y).toArray := by
  unfold Program.built
  rw [hit, hu]
  simp only [hz, hpl, Value.cells]
  rw [fill_one _ Z 0 0 n X _ rfl hX (by omega), fill_one _ _ 1 n m Y _ rfl hY (by simp [splice]; omega)]
  subst hX
  rw [splice_two Z X Y (by omega)]
  rfl
theorem exec_build {o : Oper} {ρ : Operand → Value} (t : TypeId) (parts : List (Nat × Operand)) (ho : o.op = .build t parts.toArray) (vals : List (Nat × Value)) (cells : Array Value) (hb : P.built t vals = some cells) (hv : parts.map (fun p => (p.1, ρ p.2)) = vals) (w : World) :
    (execOp ρ o).run P w = .ok (.value (.agg cells)) w := by
  have h := run_build (P := P) w t (parts.map (fun p => (p.1, ρ p.2))).toArray cells (by rw [hv]; exact hb)
  unfold execOp
  simp [ho]
  rw [show (parts.map fun p => (p.1, ρ p.2)).toArray = (parts.map fun p => (p.1, ρ p.2)).toArray from rfl]
  simp [h]
theorem wpList_unguard {ops : Array Oper} {rest : List Oper} {a : Act} {w : World} {Q : Exit → Act → World → Prop} {d : Option Tmp} {op : Op} {ty : TypeId} {pos : String} {aft : Array Edge} {g : Nat × Bool}
    (hw : Region.wanted ⟨d, op, ty, pos, aft, some g⟩ (yielded ops a.tmps) = true) (h : wpList P ops Q (⟨d, op, ty, pos, aft, none⟩ :: rest) a w) : wpList P ops Q (⟨d, op, ty, pos, aft, some g⟩ :: rest) a w := by
  have h2 : Region.wanted ⟨d, op, ty, pos, aft, none⟩ (yielded ops a.tmps) = true := rfl
  simp only [wpList, hw, h2] at h ⊢
  exact h
end
end Go.Proofs.YtpmkcjgndljhgaaDoor
