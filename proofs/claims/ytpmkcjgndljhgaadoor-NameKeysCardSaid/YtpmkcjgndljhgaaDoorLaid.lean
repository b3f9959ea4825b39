/- package-level tables of numbers that the row lists: what the condition gives the walks. Nothing of the program. -/
import Derived.Test.YtpmkcjgndljhgaaDoorBuilt
import Derived.LaidMore
import Derived.MakeChecks

namespace Go.Proofs.YtpmkcjgndljhgaaDoor
open Go.ChangeShapes Go.WideShapes Go.ChangeAt Go.RowKit
section
variable {P : Program} {W : World}

/-- a table of numbers reads as its cells -/
theorem laid_cells {enc : TypeId × Value → Unit} {sp : Nat → Bool} {held : Bool} {t e : TypeId} {n fuel : Nat} {k : IntKind} {zs : List Int} {cs : List Value} {pl : List MemPlace}
    (ht : P.underlying t = some (.array n e)) (he : P.underlying e = some (.int k)) (hc : P.cellsOf e = 1)
    (h : DataW.trod enc P W 0 sp held fuel t cs = some (.agg (zs.map fun z => .lit (.int k z)), pl)) :
    ∀ (i : Nat) (z : Int), zs[i]? = some z → cs[i]? = some (.int k z) := by
  obtain ⟨xs, m, rfl, hx, _, hn, hel⟩ := DataW.trod_array ht h
  intro i z hi
  injection hx with h1 _
  injection h1 with h1
  have hlen : xs.length = zs.length := by have := congrArg List.length h1; simpa using this.symm
  have hil := (List.getElem?_eq_some_iff.1 hi).1
  have h2 := hel i (by omega)
  have hxi : xs[i]? = some (xs[i]'(by omega)) := List.getElem?_eq_getElem _
  rw [hxi, hc] at h2
  obtain ⟨q, e1, e2, _⟩ := DataW.trod_int he h2
  have h3 : (zs.map fun z => DataW.lit (H := Unit) (Lit.int k z))[i]? = (xs.map (·.1))[i]? := by rw [h1]
  rw [List.getElem?_map, List.getElem?_map, hi, hxi, e2] at h3
  simp at h3
  subst h3
  rw [Nat.mul_one] at e1
  have h4 : ((cs.drop i).take 1)[0]? = some (Value.int k z) := by rw [e1]; rfl
  rw [List.getElem?_take_of_lt (by omega), List.getElem?_drop] at h4
  simpa using h4

theorem laid_cons {name : String} {d : DataW Unit} {rest : List (String × DataW Unit)} {ps : List MemPlace} (h : DataW.LaidVars P W ((name, d) :: rest) ps) : (∃ qs, DataW.LaidVars P W rest qs) ∧
    ∀ {g t n e : Nat} {k : IntKind} {zs : List Int} (_ : d = .agg (zs.map fun z => .lit (.int k z))) (_ : P.globalNamed name = some g) (_ : (P.globals[g]?).map (·.type) = some t) (_ : P.underlying t = some (.array n e)) (_ : P.underlying e = some (.int k)) (_ : P.cellsOf e = 1),
      ∀ (i : Nat) (z : Int), zs[i]? = some z → W.cell? ⟨g, i, none⟩ = some (.int k z) := by
  obtain ⟨g0, t0, cs0, f0, p0, q0, hg0, ht0, hv0, hd0, hr, _⟩ := h
  refine ⟨⟨_, hr⟩, ?_⟩
  intro g t n e k zs hd hg ht hu he hc i z hi
  subst hd
  obtain rfl := Option.some.inj (hg.symm.trans hg0)
  obtain rfl := Option.some.inj (ht.symm.trans ht0)
  rw [World.var?_cell hg0 hv0 i]
  have := laid_cells hu he hc hd0 i z hi
  simpa using this
end
end Go.Proofs.YtpmkcjgndljhgaaDoor
