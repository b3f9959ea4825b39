/- a variable of an array that is made and written at once. Nothing of the program. -/
import Derived.Test.YteokfgdennjjiaaBlk
namespace Go.Proofs.Yteokfgdennjjiaa
open Go.ChangeShapes Go.WideShapes Go.ChangeAt Go.RowKit
theorem size_setCells (b : Nat) : ∀ (vs : List Value) (w : World) (o : Nat), (w.setCells b o vs).heap.size = w.heap.size
  | [], _, _ => rfl
  | v :: vs, w, o => (size_setCells b vs (w.setCell ⟨b, o, none⟩ v) (o + 1)).trans (by simp [World.setCell])
section
variable {P : Program}
theorem wpList_allocZ {w : World} {ops : Array Oper} {rest : List Oper} {o : Oper} {a : Act} {Q : Exit → Act → World → Prop} (hg : o.guard = none) (t : TypeId) (ho : o.op = .alloc t)
    (z : List Value) (hz : ∀ w, (zeroValue t).run P w = .ok (.agg z.toArray) w)
    (h : ∀ w', Blk w' w.heap.size t z → Fr Non w w' → w'.heap.size = w.heap.size + 1 → wpList P ops Q rest (a.put o.dst (.pointer (some ⟨w.heap.size, 0, none⟩))) w') : wpList P ops Q (o :: rest) a w := by
  refine wpList_plain hg fun K hK => ?_
  unfold Oper.wp
  simp [execOp, ho, Instr.alloc, newVar, hz, go_sem, Value.cells]
  exact hK _ _ (h _ (Blk.new w t z) (Fr.alloc _ _) (by simp))
theorem splice_all {α : Type} (L ys : List α) (h : L.length = ys.length) : splice L 0 ys = ys := by
  simp only [splice, List.take_zero, List.nil_append, Nat.zero_add]
  rw [List.drop_of_length_le (by omega), List.append_nil]
/-- 'd := ..', an array, whose address is taken -/
theorem wpList_var {w : World} {ops : Array Oper} {rest : List Oper} {o1 o2 : Oper} {Q : Exit → Act → World → Prop} {l : List Value} {df : List Deferred} (g1 : o1.guard = none) (g2 : o2.guard = none) (t : TypeId) (d : Nat) (y : Operand) (ho1 : o1.op = .alloc t) (hd1 : o1.dst = some d) (ho2 : o2.op = .store t (.tmp d) y) (hd2 : o2.dst = none)
    (z ys : List Value) (hz : ∀ w, (zeroValue t).run P w = .ok (.agg z.toArray) w) (hzl : z.length = ys.length) (hi : (P.info? t).map (·.size) = some ys.length) (h1 : ∀ v ∈ ys, v.oneCell' = true) (hl : d < l.length) (hy : ∀ u, Act.eval ⟨(l.set d u).toArray, df⟩ y = .agg ys.toArray)
    (h : ∀ w', Blk w' w.heap.size t ys → Fr Non w w' → w'.heap.size = w.heap.size + 1 → wpList P ops Q rest ⟨(l.set d (.pointer (some ⟨w.heap.size, 0, none⟩))).toArray, df⟩ w') : wpList P ops Q (o1 :: o2 :: rest) ⟨l.toArray, df⟩ w := by
  refine wpList_allocZ g1 t ho1 z hz fun w1 hb hf hs => ?_
  rw [hd1]
  simp only [Act.put, List.setIfInBounds_toArray]
  refine wpList_store_mid g2 t (.tmp d) y ho2 w.heap.size 0 ys.toArray (by simp [Act.eval, hl]) (hy _) (by have := hb.there 0 ys.length (by omega); simpa using this) (by rw [List.size_toArray]; exact hi) (all_oneCell_toArray h1) ?_
  rw [hd2]
  simp only [Act.put]
  have hb2 := Blk.setCells ys w1 z 0 hb (by omega)
  rw [splice_all _ _ hzl] at hb2
  have hf2 := Fr.setCells' w.heap.size ys w1 0
  refine h _ hb2 (hf.new hf2 (fun i h => by have h1 : i = w.heap.size := h; omega)) ?_
  rw [← hs]
  exact (size_setCells _ _ _ _)
end
end Go.Proofs.Yteokfgdennjjiaa
