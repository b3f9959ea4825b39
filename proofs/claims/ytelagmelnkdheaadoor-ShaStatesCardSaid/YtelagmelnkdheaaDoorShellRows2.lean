/- an argument that is a slice of slices of bytes, opened into rows. Nothing of the program. -/
import Derived.Test.YtelagmelnkdheaaDoorShell
import Derived.Test.YtelagmelnkdheaaDoorBuilt
import Derived.Deep.Matrix
namespace Go.Proofs.YtelagmelnkdheaaDoor
open Go.ChangeShapes Go.WideShapes Go.ChangeAt Go.RowKit

section
variable {P : Program} {H : Type} {enc : TypeId × Value → H} {W : World}

theorem row_ofBytes {A : Option Addr} {L C : Nat} {Z : List Int} (hl : L ≤ C) (hm : C ≤ maxLen) (hz : Z.length = C) (hw : ∀ n ∈ Z, (Lit.int .u8 n).wf = true) (hn : A = none → C = 0)
    (hc : ∀ a', A = some a' → ∀ c, c < C → W.cell? (a'.add c) = some (.int .u8 (Z.getD c 0))) : Row W (.slice A L C) (bs ((Z.take L).map fun z => UInt8.ofNat z.toNat)) := by
  have hb : (Z.take L).map (Value.int .u8) = bs ((Z.take L).map fun z => UInt8.ofNat z.toNat) := bytes_of_wf _ (fun z hz => hw z (List.mem_of_mem_take hz))
  rw [← hb]
  cases A with
  | none =>
    have h0 := hn rfl
    have hL : L = 0 := by omega
    subst h0 hL
    rw [List.take_zero]
    exact ⟨none, 0, rfl, Nat.le_refl _, hm, fun _ => rfl, fun j hj => absurd hj (by simp)⟩
  | some a =>
    rw [List.map_take]
    refine row_of hl hm (by simpa using hz) (fun i hi => ?_)
    have hi' : i < Z.length := by simpa using hi
    rw [hc a rfl i (by omega)]
    simp [List.getD, hi']

theorem open_rows2 {t e q : TypeId} {v : Value} {d : DataW H} {p : List MemPlace} (ht : P.underlying t = some (.slice e)) (he : P.underlying e = some (.slice q)) (hq : P.underlying q = some (.int .u8)) (ce : P.cellsOf e = 1) (cq : P.cellsOf q = 1)
    (hv : ∃ a len cap, v = .slice a len cap) (h : DataW.Trod enc P W 0 (fun _ => true) true t v d p) :
    ∃ ls : List (List UInt8), Rows2 W v ls ∧ ((d = .nil ∧ ls.length = 0) ∨ ∃ elems spare, d = .slice elems spare ∧ elems.length = ls.length) := by
  obtain ⟨a, len, cap, rfl⟩ := hv
  obtain ⟨fuel, hf⟩ := h
  rcases Deep.open_int_rows ht he hq ce cq hf with ⟨hcs, hx⟩ | ⟨x, l, c, A, L, C, Z, hcs, _, hl, hm, hx, hr⟩
  · simp [Value.cells] at hcs
    obtain ⟨rfl, rfl, rfl⟩ := hcs
    injection hx with hx1 hx2
    exact ⟨[], ⟨[], Row.nil W, rfl, by simp⟩, .inl ⟨hx1, rfl⟩⟩
  · simp [Value.cells] at hcs
    obtain ⟨rfl, rfl, rfl⟩ := hcs
    injection hx with hx1 hx2
    refine ⟨(List.range len).map fun r => ((Z r).take (L r)).map fun z => UInt8.ofNat z.toNat, ⟨((List.range cap).map fun r => Value.slice (A r) (L r) (C r)).take len, ?_, by simp; omega, fun i u hi => ?_⟩, .inr ⟨_, _, hx1, by simp⟩⟩
    · refine row_of hl hm (by simp) (fun i hi => ?_)
      have hi' : i < cap := by simpa using hi
      rw [(hr i hi').1]
      simp [hi']
    · have hil := (List.getElem?_eq_some_iff.1 hi).1
      have hil' : i < len := by simp at hil; omega
      have hic : i < cap := by omega
      rw [List.getElem?_take_of_lt hil'] at hi
      simp [hic] at hi
      subst hi
      obtain ⟨_, r1, r2, r3, r4, r5, r6⟩ := hr i hic
      have := row_ofBytes (W := W) r1 r2 r3 r4 r5 (fun a' h => (r6 a' h).2)
      simpa [hil'] using this
end
end Go.Proofs.YtelagmelnkdheaaDoor
