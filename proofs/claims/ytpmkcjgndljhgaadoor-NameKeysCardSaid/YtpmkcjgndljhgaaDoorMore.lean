/- frames step by step, rows that lie elsewhere, digests compared -/
import Derived.Test.YtpmkcjgndljhgaaDoorBlk
import Derived.Test.YtpmkcjgndljhgaaDoorShaMath
import Derived.Stop.BytesEq

namespace Go.Proofs.YtpmkcjgndljhgaaDoor
open Go.ChangeShapes Go.WideShapes Go.ChangeAt Go.RowKit
def vlen : Value → Nat
  | .slice _ n _ => n
  | _ => 0
theorem Own.vlen {w : World} {base e : Nat} {v : Value} {xs : List Value} (h : Own w base e v xs) : vlen v = xs.length := by
  obtain ⟨a, c, rfl, _⟩ := h.row
  rfl
theorem Fr.toAlloc {S : Nat → Prop} {a b : World} (h : Fr S a b) (o : Obj) : Fr S a (b.alloc o) := h.thenNon (Fr.alloc b o)
theorem Fr.toDrew {S : Nat → Prop} {a b : World} (h : Fr S a b) : Fr S a b.drew := h.thenNon (Fr.drew b)
theorem Fr.range {S : Nat → Prop} {a b : World} (h : Fr S a b) {g o : Nat} {cs : List Value} (hr : a.rangeAt g o cs) (hn : ¬ S g) : b.rangeAt g o cs := fun j v hv => h.cell (hr j v hv) hn
theorem Rows2.toAlloc {w : World} {v : Value} {ls : List (List UInt8)} (h : Rows2 w v ls) (o : Obj) : Rows2 (w.alloc o) v ls := h.frame (Fr.alloc _ _)
theorem Rows2.toDrew {w : World} {v : Value} {ls : List (List UInt8)} (h : Rows2 w v ls) : Rows2 w.drew v ls := h.frame (Fr.drew _)
theorem Row.offNew {w : World} {v : Value} {l : List UInt8} {O : Nat → Prop} (h : Row w v (bs l)) (ho : ∀ i, O i → w.heap.size ≤ i) (hn : l ≠ []) : Off O v := by
  obtain ⟨a, c, rfl, _, _, _, h4⟩ := h
  intro b off n c' e hb
  have hl : 0 < (bs l).length := by rw [bs_length]; exact List.length_pos_iff.2 hn
  obtain ⟨b', off', rfl, hc⟩ := h4 0 hl
  injection e with e1 _ _
  injection e1 with e1
  injection e1 with e2 e3
  subst e2 e3
  have h2 := hc 0 _ (List.getElem?_eq_getElem hl)
  have h3 : b' < w.heap.size := World.block_lt_of_cell? _ _ h2
  have := ho _ hb
  omega
theorem Row.blockLt {w : World} {l : List UInt8} {b off n c : Nat} (h : Row w (.slice (some ⟨b, off, none⟩) n c) (bs l)) (hn : l ≠ []) : b < w.heap.size := by
  obtain ⟨a', c', e, _, _, _, h4⟩ := h
  have hl : 0 < (bs l).length := by rw [bs_length]; exact List.length_pos_iff.2 hn
  obtain ⟨b', off', rfl, hc⟩ := h4 0 hl
  injection e with e1 _ _
  injection e1 with e1
  injection e1 with e2 e3
  subst e2 e3
  have h2 := hc 0 _ (List.getElem?_eq_getElem hl)
  exact World.block_lt_of_cell? _ _ h2
/-- what was not appended to lies elsewhere still -/
theorem Row.offMoved {w : World} {v v' r : Value} {l : List UInt8} (hr : Row w r (bs l)) (hl : l ≠ []) (ho : Off (OwnOf v) r) (hm : Moved w v v') : Off (OwnOf v') r := by
  intro b off n c e h
  subst e
  rcases hm b h with h1 | h1
  · exact ho _ _ _ _ rfl h1
  · have := hr.blockLt hl; omega
theorem Row.frameNe {S : Nat → Prop} {w w' : World} {v : Value} {l : List UInt8} (h : Row w v (bs l)) (f : Fr S w w') (hn : l ≠ [] → Off S v) : Row w' v (bs l) := by
  by_cases h0 : l = []
  · subst h0
    obtain ⟨a, c, rfl, q1, q2, q3, q4⟩ := h
    exact ⟨a, c, rfl, q1, q2, q3, fun j hj => absurd hj (by simp [bs])⟩
  · exact h.frame f (hn h0)
theorem Row.vlen {w : World} {v : Value} {xs : List Value} (h : Row w v xs) : vlen v = xs.length := by
  obtain ⟨a, c, rfl, _⟩ := h
  rfl
theorem size25 : ∀ w, (sizeOf 5).run Tryd.prog w = .ok 1 w := fun w => run_size1 w (by kernel_rfl)
/-- digests are compared byte by byte -/
theorem eqDigest (w : World) (x y : List UInt8) (hx : x.length = 32) (hy : y.length = 32) : (binOp .eql 42 (.agg (bs x).toArray) (.agg (bs y).toArray)).run Tryd.prog w = .ok (.bool (x == y)) w :=
  run_eql_bytes (P := Tryd.prog) w 42 5 32 Tryd.underlying42 Tryd.underlying5 size25 x y hx hy
theorem neqDigest_same (l : List UInt8) (w : World) : (binOp .neq 42 (.agg (bs (sha l)).toArray) (.agg (bs (sha l)).toArray)).run Tryd.prog w = .ok (.bool false) w := by
  have h := run_equalIn_bytes (P := Tryd.prog) w 9998 42 5 32 Tryd.underlying42 Tryd.underlying5 size25 (sha l) (sha l) (sha_length l) (sha_length l)
  have h2 : (Op.equalIn 10000 42 (.agg (bs (sha l)).toArray) (.agg (bs (sha l)).toArray)).run Tryd.prog w = .ok (sha l == sha l) w := h
  simp only [binOp]
  simp [Op.equal, Op.maxDepth, h2]
theorem eqDigest_same (l : List UInt8) (w : World) : (binOp .eql 42 (.agg (bs (sha l)).toArray) (.agg (bs (sha l)).toArray)).run Tryd.prog w = .ok (.bool true) w := by
  rw [eqDigest w _ _ (sha_length l) (sha_length l)]; simp
end Go.Proofs.YtpmkcjgndljhgaaDoor
