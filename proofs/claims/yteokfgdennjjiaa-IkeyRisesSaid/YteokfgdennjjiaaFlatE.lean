/- cells that are an entry's. Nothing of the program. -/
import Derived.Test.YteokfgdennjjiaaFlat
import Derived.Test.YteokfgdennjjiaaERow
namespace Go.Proofs.Yteokfgdennjjiaa
open Go.ChangeShapes Go.WideShapes Go.ChangeAt Go.RowKit

theorem ent_of_cells {us : List Value} (hl : us.length = 4) (h : ∀ (i : Nat) (k : FK), [FK.str, .int .u64, .int .u8, .str][i]? = some k → ∃ u, us[i]? = some u ∧ k.okv u) : ∃ e : Ent, us = entCells e ∧ e.seq < 18446744073709551616 ∧ e.kind < 256 := by
  obtain ⟨_, c0, ⟨s0, rfl, _⟩⟩ := h 0 .str rfl
  obtain ⟨_, c1, ⟨z1, rfl, w1⟩⟩ := h 1 (.int .u64) rfl
  obtain ⟨_, c2, ⟨z2, rfl, w2⟩⟩ := h 2 (.int .u8) rfl
  obtain ⟨_, c3, ⟨s3, rfl, _⟩⟩ := h 3 .str rfl
  obtain ⟨n1, rfl, u1⟩ := nat_of_wf w1 (by decide)
  obtain ⟨n2, rfl, u2⟩ := nat_of_wf w2 (by decide)
  have u1 : (n1 : Int) ≤ 18446744073709551615 := u1
  have u2 : (n2 : Int) ≤ 255 := u2
  exact ⟨⟨s0, n1, n2, s3⟩, list4 hl c0 c1 c2 c3, by show n1 < _; omega, by show n2 < _; omega⟩
end Go.Proofs.Yteokfgdennjjiaa
