/- the library's powers of ten, as they were laid -/
import Derived.Test.YtpmkcjgndljhgaaDoorLaid
import Derived.Lib.LaidTab
import Derived.Lib.ItoaNum

namespace Go.Proofs.YtpmkcjgndljhgaaDoor
open Go.ChangeShapes Go.WideShapes Go.ChangeAt Go.RowKit
section
variable {P : Program} {W : World}
theorem laid_tab {name : String} {d : DataW Unit} {rest : List (String × DataW Unit)} {ps : List MemPlace} {g t n e : Nat} {k : IntKind} {zs : List Int} (hd : d = .agg (zs.map fun z => .lit (.int k z))) (hg : P.globalNamed name = some g) (ht : (P.globals[g]?).map (·.type) = some t) (hu : P.underlying t = some (.array n e)) (he : P.underlying e = some (.int k)) (hc : P.cellsOf e = 1) (hn : P.cellsOf t = n)
    (h : DataW.LaidVars P W ((name, d) :: rest) ps) : Lib.TabIs P W name k zs := by
  obtain ⟨g0, t0, cs0, f0, p0, q0, hg0, ht0, hv0, hd0, hr, _⟩ := h
  subst hd
  obtain rfl := Option.some.inj (hg.symm.trans hg0)
  obtain rfl := Option.some.inj (ht.symm.trans ht0)
  unfold Lib.TabIs
  rw [hv0, ← Lib.cells_of_tab hu he hc hn hd0]
theorem tabIs_fr {w w' : World} {name : String} {k : IntKind} {zs : List Int} (h : Lib.TabIs P w name k zs) (f : Fr Non w w') : Lib.TabIs P w' name k zs := by
  unfold Lib.TabIs World.var? at *
  cases hg : P.globalNamed name with
  | none => simp [hg] at h
  | some g =>
    simp only [hg, Option.bind_some] at h ⊢
    have hlt : g < w.heap.size := by
      rcases Nat.lt_or_ge g w.heap.size with h' | h'
      · exact h'
      · rw [Array.getElem?_eq_none h'] at h; simp at h
    rw [f.block g hlt (fun h => h)]
    exact h
end
/-- the powers of ten lie as they were laid -/
def PowT (w : World) : Prop := Lib.TabIs Tryd.prog w "internal/strconv.uint64pow10" .u64 Lib.pow10Tab
theorem PowT.tf {w w' : World} (h : PowT w) (f : Fr Non w w') : PowT w' := tabIs_fr h f
end Go.Proofs.YtpmkcjgndljhgaaDoor
