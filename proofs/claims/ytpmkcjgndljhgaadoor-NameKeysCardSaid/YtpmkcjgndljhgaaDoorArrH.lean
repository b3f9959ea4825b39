/- a struct of numbers that came in. Nothing of the program. -/
import Derived.Test.YtpmkcjgndljhgaaDoorShell
import Derived.OpenShut
import Derived.Deep.Strs

namespace Go.Proofs.YtpmkcjgndljhgaaDoor
open Go.ChangeShapes Go.WideShapes Go.ChangeAt Go.RowKit
section
variable {P : Program} {H : Type} {enc : TypeId × Value → H} {W : World}
theorem open_flat {t : TypeId} {fs : Array Field} (ks : List IntKind) {v : Value} {d : DataW H} {p : List MemPlace} (ht : P.underlying t = some (.struct fs)) (hn : fs.size = ks.length)
    (hf : ∀ (i : Nat) (f : Field) (k : IntKind), fs[i]? = some f → ks[i]? = some k → f.offset = i ∧ P.underlying f.type = some (.int k) ∧ P.cellsOf f.type = 1) (ct : P.cellsOf t = ks.length)
    (hv : ∃ cs, v = .agg cs ∧ cs.size = P.cellsOf t) (h : DataW.Trod enc P W 0 (fun _ => true) true t v d p) :
    ∃ cs : List Value, v = .agg cs.toArray ∧ cs.length = ks.length ∧ ∀ (i : Nat) (k : IntKind), ks[i]? = some k → ∃ z, cs[i]? = some (.int k z) ∧ (Lit.int k z).wf = true := by
  obtain ⟨cs, rfl, hs⟩ := hv
  obtain ⟨fuel, hft⟩ := h
  obtain ⟨xs, m, _, _, hl, hlen, hel⟩ := DataW.trod_struct ht hft
  refine ⟨cs.toList, by simp, by simp; omega, fun i k hk => ?_⟩
  have hi := (List.getElem?_eq_some_iff.1 hk).1
  obtain ⟨e1, e2, e3⟩ := hf i fs[i] k (Array.getElem?_eq_getElem (by omega)) hk
  have h2 := hel i fs[i] (Array.getElem?_eq_getElem (by omega))
  have hxi : xs[i]? = some (xs[i]'(by omega)) := List.getElem?_eq_getElem _
  rw [hxi, e1, e3] at h2
  obtain ⟨q, c1, _, c3⟩ := DataW.trod_int e2 h2
  refine ⟨q, ?_, c3⟩
  have h4 : ((cs.toList.drop i).take 1)[0]? = some (Value.int k q) := by rw [show cs.toList.drop i = (Value.agg cs).cells.toList.drop i from rfl, c1]; rfl
  rw [List.getElem?_take_of_lt (by omega), List.getElem?_drop] at h4
  simpa using h4
theorem list5 {α : Type} {cs : List α} {a b c d e : α} (hl : cs.length = 5) (h0 : cs[0]? = some a) (h1 : cs[1]? = some b) (h2 : cs[2]? = some c) (h3 : cs[3]? = some d) (h4 : cs[4]? = some e) : cs = [a, b, c, d, e] := by
  match cs, hl with
  | [x0, x1, x2, x3, x4], _ =>
    simp at h0 h1 h2 h3 h4
    subst h0 h1 h2 h3 h4
    rfl
end
end Go.Proofs.YtpmkcjgndljhgaaDoor
