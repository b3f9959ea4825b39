/- what the walks of the laws need of package sha: its contracts, as one word -/
import Derived.Test.YtelagmelnkdheaaDoorShaRefD
import Derived.Stop.BytesEq
namespace Go.Proofs.YtelagmelnkdheaaDoor
open Go.ChangeShapes Go.WideShapes Go.ChangeAt Go.RowKit

/-- SS O w a l: at a lies a state of the bytes l, all its memory is of O; T w: the tables lie as they were laid. -/
structure ShaC (T : World → Prop) (SS : (Nat → Prop) → World → Addr → List UInt8 → Prop) (Bl Bm : Nat) : Prop where
  tf : ∀ {w w'}, T w → Fr Non w w' → T w'
  sf : ∀ {O S w w' a l}, SS O w a l → Fr S w w' → (∀ i, S i → ¬ O i) → SS O w' a l
  lt : ∀ {O w a l}, SS O w a l → ∀ i, O i → i < w.heap.size
  new : ∀ {w}, T w → Calls Tryd.prog 11 #[] w fun e w' => ∃ a O, e = .returned (.pointer (some a)) ∧ SS O w' a [] ∧ (∀ i, O i → w.heap.size ≤ i) ∧ Fr Non w w'
  write : ∀ {O w a l v m}, T w → SS O w a l → Row w v (bs m) → (m ≠ [] → Off O v) → l.length ≤ Bl → m.length ≤ Bm →
    Calls Tryd.prog 12 #[.pointer (some a), v] w fun e w' => e = .returned (.tuple #[]) ∧ ∃ O', SS O' w' a (l ++ m) ∧ (∀ i, O' i → O i ∨ w.heap.size ≤ i) ∧ Fr O w w'
  len : ∀ {O w a l}, SS O w a l → Calls Tryd.prog 14 #[.pointer (some a)] w fun e w' => e = .returned (.int .i64 l.length) ∧ w = w'
  sum : ∀ {O w a l}, T w → SS O w a l → Calls Tryd.prog 13 #[.pointer (some a)] w fun e w' => e = .returned (.agg (bs (sha l)).toArray) ∧ Fr Non w w'
  all : ∀ {w v ls}, T w → Rows2 w v ls → ls.flatten.length ≤ Bl → (∀ l ∈ ls, l.length ≤ Bm) → Calls Tryd.prog 9 #[v] w fun e w' => e = .returned (.agg (bs (sha ls.flatten)).toArray) ∧ Fr Non w w'
  nwrite : ∀ {w v m}, Row w v (bs m) → Calls Tryd.prog 12 #[.pointer none, v] w fun e w' => e = .returned (.tuple #[]) ∧ w = w'
  nlen : ∀ {w}, Calls Tryd.prog 14 #[.pointer none] w fun e w' => e = .returned (.int .i64 0) ∧ w = w'
  nsum : ∀ {w}, T w → Calls Tryd.prog 13 #[.pointer none] w fun e w' => e = .returned (.agg (bs (sha [])).toArray) ∧ Fr Non w w'

theorem Fr.toAlloc {S : Nat → Prop} {a b : World} (h : Fr S a b) (o : Obj) : Fr S a (b.alloc o) := h.thenNon (Fr.alloc b o)
theorem Fr.toDrew {S : Nat → Prop} {a b : World} (h : Fr S a b) : Fr S a b.drew := h.thenNon (Fr.drew b)
theorem Fr.range {S : Nat → Prop} {a b : World} (h : Fr S a b) {g o : Nat} {cs : List Value} (hr : a.rangeAt g o cs) (hn : ¬ S g) : b.rangeAt g o cs := fun j v hv => h.cell (hr j v hv) hn
theorem Rows2.toAlloc {w : World} {v : Value} {ls : List (List UInt8)} (h : Rows2 w v ls) (o : Obj) : Rows2 (w.alloc o) v ls := h.frame (Fr.alloc _ _)
theorem Rows2.toDrew {w : World} {v : Value} {ls : List (List UInt8)} (h : Rows2 w v ls) : Rows2 w.drew v ls := h.frame (Fr.drew _)
theorem Row.offNew {w : World} {v : Value} {l : List UInt8} {O : Nat → Prop} (h : Row w v (bs l)) (ho : ∀ i, O i → w.heap.size ≤ i) (hn : l ≠ []) : Off O v := by
  obtain ⟨a, c, rfl, _, _, _, h4⟩ := h
  intro b off n c' e hb
  have hl : 0 < (bs l).length := by rw [bs_length]; exact List.length_pos_iff.2 hn
  obtain ⟨b', off', rfl, hc⟩ := h4 0 hl
  injection e with e1 _ _
  injection e1 with e1
  injection e1 with e2 e3
  subst e2 e3
  have h2 := hc 0 _ (List.getElem?_eq_getElem hl)
  have h3 : b' < w.heap.size := World.block_lt_of_cell? _ _ h2
  have := ho _ hb
  omega
theorem size25 : ∀ w, (sizeOf 5).run Tryd.prog w = .ok 1 w := fun w => run_size1 w (by kernel_rfl)
/-- digests are compared byte by byte -/
theorem eqDigest (w : World) (x y : List UInt8) (hx : x.length = 32) (hy : y.length = 32) : (binOp .eql 25 (.agg (bs x).toArray) (.agg (bs y).toArray)).run Tryd.prog w = .ok (.bool (x == y)) w :=
  run_eql_bytes (P := Tryd.prog) w 25 5 32 Tryd.underlying25 Tryd.underlying5 size25 x y hx hy
theorem neqDigest_same (l : List UInt8) (w : World) : (binOp .neq 25 (.agg (bs (sha l)).toArray) (.agg (bs (sha l)).toArray)).run Tryd.prog w = .ok (.bool false) w := by
  have h := run_equalIn_bytes (P := Tryd.prog) w 9998 25 5 32 Tryd.underlying25 Tryd.underlying5 size25 (sha l) (sha l) (sha_length l) (sha_length l)
  have h2 : (Op.equalIn 10000 25 (.agg (bs (sha l)).toArray) (.agg (bs (sha l)).toArray)).run Tryd.prog w = .ok (sha l == sha l) w := h
  simp only [binOp]
  simp [Op.equal, Op.maxDepth, h2]
theorem eqDigest_same (l : List UInt8) (w : World) : (binOp .eql 25 (.agg (bs (sha l)).toArray) (.agg (bs (sha l)).toArray)).run Tryd.prog w = .ok (.bool true) w := by
  rw [eqDigest w _ _ (sha_length l) (sha_length l)]; simp
end Go.Proofs.YtelagmelnkdheaaDoor
