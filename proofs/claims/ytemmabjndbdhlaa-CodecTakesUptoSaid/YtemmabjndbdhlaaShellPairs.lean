/- a slice of pairs of integers that came in reads as a list -/
import Derived.Test.YtemmabjndbdhlaaShell
import Derived.Deep.SlicePairs
namespace Go.Proofs.Ytemmabjndbdhlaa
open Go.ChangeShapes Go.WideShapes Go.ChangeAt Go.RowKit

/-- v is a slice of pairs, two cells each -/
def PRow (w : World) (v : Value) (us : List (Value × Value)) : Prop :=
  ∃ a c, v = .slice a us.length c ∧ us.length ≤ c ∧ c ≤ maxLen ∧ ∀ j, j < us.length → ∃ b off, a = some ⟨b, off, none⟩ ∧ ∀ i x, us[i]? = some x → w.cell? ⟨b, off + i * 2, none⟩ = some x.1 ∧ w.cell? ⟨b, off + i * 2 + 1, none⟩ = some x.2

theorem PRow.old {S : Nat → Prop} {w w' : World} {v : Value} {us : List (Value × Value)} (h : PRow w v us) (f : Fr S w w') (hs : ∀ k, S k → w.heap.size ≤ k) : PRow w' v us := by
  obtain ⟨a, c, rfl, h1, h2, h3⟩ := h
  refine ⟨a, c, rfl, h1, h2, fun j hj => ?_⟩
  obtain ⟨b, off, rfl, h4⟩ := h3 j hj
  have hb := World.block_lt_of_cell? w _ (h4 j _ (List.getElem?_eq_getElem hj)).1
  have hn : ¬ S b := fun hS => by have := hs b hS; simp only [] at hb; omega
  exact ⟨b, off, rfl, fun i x hx => ⟨f.cell (h4 i x hx).1 hn, f.cell (h4 i x hx).2 hn⟩⟩

section
variable {P : Program} {H : Type} {enc : TypeId × Value → H} {W : World}
theorem open_rowPairs {t e : TypeId} {f0 f1 : Field} {k0 k1 : IntKind} {v : Value} {d : DataW H} {p : List MemPlace} (ht : P.underlying t = some (.slice e)) (he : P.underlying e = some (.struct #[f0, f1]))
    (ce : P.cellsOf e = 2) (o0 : f0.offset = 0) (o1 : f1.offset = 1) (c0 : P.cellsOf f0.type = 1) (c1 : P.cellsOf f1.type = 1) (u0 : P.underlying f0.type = some (.int k0)) (u1 : P.underlying f1.type = some (.int k1))
    (hv : ∃ a len cap, v = .slice a len cap) (h : DataW.Trod enc P W 0 (fun _ => true) true t v d p) :
    ∃ zs : List (Int × Int), PRow W v (zs.map fun z => (Value.int k0 z.1, Value.int k1 z.2)) ∧ (∀ z ∈ zs, (Lit.int k0 z.1).wf = true ∧ (Lit.int k1 z.2).wf = true) ∧
      ((d = .nil ∧ zs.length = 0) ∨ ∃ elems spare, d = .slice elems spare ∧ elems.length = zs.length) := by
  obtain ⟨a, len, cap, rfl⟩ := hv
  obtain ⟨fuel, hf⟩ := h
  rcases Go.Deep.open_slice_pairs ht he ce o0 o1 c0 c1 hf with ⟨hcs, hx⟩ | ⟨x, l, c, m, n, V0, V1, D0, D1, P0, P1, hcs, _, hl, hm, hmm, hx, hcell⟩
  · simp [Value.cells] at hcs
    obtain ⟨rfl, rfl, rfl⟩ := hcs
    injection hx with hx1 hx2
    exact ⟨[], ⟨none, 0, rfl, Nat.le_refl _, Nat.zero_le _, fun j hj => absurd hj (by simp)⟩, by simp, .inl ⟨hx1, rfl⟩⟩
  · simp [Value.cells] at hcs
    obtain ⟨rfl, rfl, rfl⟩ := hcs
    injection hx with hx1 hx2
    have hmm' : m = cap := by simpa using hmm
    subst hmm'
    have g0 : ∀ i, i < m → V0 i = .int k0 (intOf (V0 i)) ∧ (Lit.int k0 (intOf (V0 i))).wf = true := fun i hi => by
      obtain ⟨z, e0, _, wz⟩ := DataW.trod_int u0 (hcell i hi).2.2.1
      simp at e0
      rw [e0]
      exact ⟨rfl, wz⟩
    have g1 : ∀ i, i < m → V1 i = .int k1 (intOf (V1 i)) ∧ (Lit.int k1 (intOf (V1 i))).wf = true := fun i hi => by
      obtain ⟨z, e0, _, wz⟩ := DataW.trod_int u1 (hcell i hi).2.2.2
      simp at e0
      rw [e0]
      exact ⟨rfl, wz⟩
    have hlen : (((List.range len).map fun i => (intOf (V0 i), intOf (V1 i))).map fun z => (Value.int k0 z.1, Value.int k1 z.2)).length = len := by simp
    refine ⟨(List.range len).map fun i => (intOf (V0 i), intOf (V1 i)), ?_, ?_, .inr ⟨_, _, hx1, by simp⟩⟩
    · refine ⟨some x, m, by rw [hlen], by rw [hlen]; exact hl, hm, fun j hj => ?_⟩
      rw [hlen] at hj
      obtain ⟨b, off, spot⟩ := x
      have hspot : spot = none := by
        have h0 := (hcell 0 (by omega)).1
        simpa [Addr.add] using World.cell?_spot h0
      subst hspot
      refine ⟨b, off, rfl, fun i y hy => ?_⟩
      have hil : i < len := by have := (List.getElem?_eq_some_iff.1 hy).1; rwa [hlen] at this
      have hy' : y = (Value.int k0 (intOf (V0 i)), Value.int k1 (intOf (V1 i))) := by
        simp [hil] at hy
        exact hy.symm
      subst hy'
      have h1 := (hcell i (by omega)).1
      have h2 := (hcell i (by omega)).2.1
      rw [Addr.add_lit] at h1 h2
      rw [(g0 i (by omega)).1] at h1
      rw [(g1 i (by omega)).1] at h2
      exact ⟨h1, by rw [Nat.add_assoc]; exact h2⟩
    · intro z hz
      obtain ⟨i, hi, rfl⟩ := List.mem_map.1 hz
      have hi' : i < len := List.mem_range.1 hi
      exact ⟨(g0 i (by omega)).2, (g1 i (by omega)).2⟩
end
end Go.Proofs.Ytemmabjndbdhlaa
