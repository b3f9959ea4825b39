/- a struct of two arrays of bytes and a number that came in. Nothing of the program. -/
import Derived.Test.YtcooibfnnjgjkaaDoorArr
import Derived.Deep.Strs
namespace Go.Proofs.YtcooibfnnjgjkaaDoor
open Go.ChangeShapes Go.WideShapes Go.ChangeAt Go.RowKit
section
variable {P : Program} {H : Type} {enc : TypeId × Value → H} {W : World}
theorem open_two {t e : TypeId} {f0 f1 f2 : Field} {n m : Nat} {k : IntKind} {v : Value} {d : DataW H} {p : List MemPlace} (ht : P.underlying t = some (.struct #[f0, f1, f2])) (o0 : f0.offset = 0) (o1 : f1.offset = n) (o2 : f2.offset = n + m)
    (u0 : P.underlying f0.type = some (.array n e)) (u1 : P.underlying f1.type = some (.array m e)) (u2 : P.underlying f2.type = some (.int k)) (he : P.underlying e = some (.int .u8)) (hc : P.cellsOf e = 1) (c0 : P.cellsOf f0.type = n) (c1 : P.cellsOf f1.type = m) (c2 : P.cellsOf f2.type = 1) (ct : P.cellsOf t = n + m + 1)
    (hv : ∃ cs, v = .agg cs ∧ cs.size = P.cellsOf t) (h : DataW.Trod enc P W 0 (fun _ => true) true t v d p) :
    ∃ (l0 l1 : List UInt8) (z : Int), v = .agg (bs l0 ++ bs l1 ++ [Value.int k z]).toArray ∧ l0.length = n ∧ l1.length = m ∧ (Lit.int k z).wf = true := by
  obtain ⟨cs, rfl, hs⟩ := hv
  obtain ⟨fuel, hf⟩ := h
  obtain ⟨y0, y1, y2, q, _, hl, h0, h1, h2⟩ := Go.Deep.trod_struct3 ht hf
  simp only [Value.cells] at hl h0 h1 h2
  rw [o0, c0, List.drop_zero] at h0
  rw [o1, c1] at h1
  rw [o2, c2] at h2
  have hlen : cs.toList.length = n + m + 1 := by rw [hl, ct]
  obtain ⟨l0, e0, n0⟩ := open_arrBytes (v := .agg (cs.toList.take n).toArray) (d := y0.1) (p := y0.2) u0 he hc ⟨_, rfl, by rw [c0]; simp at hlen ⊢; omega⟩ c0 ⟨q, by simpa [Value.cells] using h0⟩
  obtain ⟨l1, e1, n1⟩ := open_arrBytes (v := .agg ((cs.toList.drop n).take m).toArray) (d := y1.1) (p := y1.2) u1 he hc ⟨_, rfl, by rw [c1]; simp at hlen ⊢; omega⟩ c1 ⟨q, by simpa [Value.cells] using h1⟩
  obtain ⟨z, e2, _, wz⟩ := DataW.trod_int u2 h2
  injection e0 with e0
  injection e1 with e1
  have e0' : cs.toList.take n = bs l0 := by simpa using congrArg Array.toList e0
  have e1' : (cs.toList.drop n).take m = bs l1 := by simpa using congrArg Array.toList e1
  refine ⟨l0, l1, z, ?_, n0, n1, wz⟩
  congr 1
  apply Array.ext'
  rw [List.toList_toArray, ← e0', ← e1', ← e2]
  have h3 : (cs.toList.drop (n + m)).take 1 = cs.toList.drop (n + m) := List.take_of_length_le (by rw [List.length_drop]; omega)
  rw [h3, ← List.drop_drop, List.append_assoc, List.take_append_drop, List.take_append_drop]
end
end Go.Proofs.YtcooibfnnjgjkaaDoor
