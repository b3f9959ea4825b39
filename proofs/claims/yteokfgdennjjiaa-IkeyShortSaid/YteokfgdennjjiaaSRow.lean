/- slices of structs that read as lists of their cells. Nothing of the program. -/
import Derived.Test.YteokfgdennjjiaaBlk
namespace Go.Proofs.Yteokfgdennjjiaa
open Go.ChangeShapes Go.WideShapes Go.ChangeAt Go.RowKit

/-- v is a slice of structs of k cells each -/
def SRow (k : Nat) (w : World) (v : Value) (xss : List (List Value)) : Prop :=
  ∃ a c, v = .slice a xss.length c ∧ xss.length ≤ c ∧ c ≤ maxLen ∧ (a = none → c = 0) ∧ (∀ us ∈ xss, us.length = k) ∧ ∀ j, j < xss.length → ∃ b off, a = some ⟨b, off, none⟩ ∧ ∀ i us, xss[i]? = some us → w.rangeAt b (off + i * k) us

theorem SRow.frame {k : Nat} {S : Nat → Prop} {w w' : World} {v : Value} {xss : List (List Value)} (h : SRow k w v xss) (f : Fr S w w') (hn : Off S v) : SRow k w' v xss := by
  obtain ⟨a, c, rfl, h1, h2, h3, h6, h4⟩ := h
  refine ⟨a, c, rfl, h1, h2, h3, h6, fun j hj => ?_⟩
  obtain ⟨b, off, rfl, h5⟩ := h4 j hj
  exact ⟨b, off, rfl, fun i us hi m u hm => f.cell (h5 i us hi m u hm) (hn _ _ _ _ rfl)⟩
theorem SRow.non {k : Nat} {w w' : World} {v : Value} {xss : List (List Value)} (h : SRow k w v xss) (f : Fr Non w w') : SRow k w' v xss := h.frame f (fun _ _ _ _ _ h => h)
theorem SRow.le {k : Nat} {w : World} {v : Value} {xss : List (List Value)} (h : SRow k w v xss) : xss.length ≤ maxLen := by
  obtain ⟨_, _, _, h1, h2, _⟩ := h
  exact Nat.le_trans h1 h2
theorem SRow.lens {k : Nat} {w : World} {v : Value} {xss : List (List Value)} (h : SRow k w v xss) : ∀ us ∈ xss, us.length = k := by
  obtain ⟨_, _, _, _, _, _, h6, _⟩ := h
  exact h6
/-- where element i lies -/
theorem SRow.at {k : Nat} {w : World} {v : Value} {xss : List (List Value)} (h : SRow k w v xss) (hne : 0 < xss.length) : ∃ b off c, v = .slice (some ⟨b, off, none⟩) xss.length c ∧ ∀ i us, xss[i]? = some us → w.rangeAt b (off + i * k) us := by
  obtain ⟨a, c, rfl, h1, h2, h3, h6, h4⟩ := h
  obtain ⟨b, off, rfl, h5⟩ := h4 0 hne
  exact ⟨b, off, c, rfl, h5⟩
section
variable {P : Program}
theorem run_lenS {k : Nat} {w0 : World} {v : Value} {xss : List (List Value)} (hv : SRow k w0 v xss) (t e : TypeId) (ht : P.underlying t = some (.slice e)) : ∀ ty w, (Builtin.len_ #[t] ty #[v]).run P w = .ok (.int .i64 xss.length) w := by
  intro ty w
  obtain ⟨a0, c, rfl, _⟩ := hv
  have he : P.elem t = e := by unfold Program.elem; rw [ht]
  simp [Builtin.len_, run_underlying ht, goInt]
end
theorem rangeAt_non {w w' : World} {b o : Nat} {us : List Value} (h : w.rangeAt b o us) (f : Fr Non w w') : w'.rangeAt b o us := fun j u hj => f.cell (h j u hj) (fun h => h)
end Go.Proofs.Yteokfgdennjjiaa
