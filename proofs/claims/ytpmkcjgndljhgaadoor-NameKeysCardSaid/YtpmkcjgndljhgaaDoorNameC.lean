/- package name: what is asked of its functions, as one word -/
import Derived.Test.YtpmkcjgndljhgaaDoorGroundA
import Derived.Test.YtpmkcjgndljhgaaDoorNameRefH

namespace Go.Proofs.YtpmkcjgndljhgaaDoor
open Go.ChangeShapes Go.WideShapes Go.ChangeAt Go.RowKit

/-- T w: the tables that names need lie as they were laid -/
structure NameC (T : World → Prop) : Prop where
  tf : ∀ {w w'}, T w → Fr Non w w' → T w'
  name : ∀ (kind n : Nat) (w : World), kind < 256 → n < 18446744073709551616 → T w → Calls Tryd.prog 11 #[.int .u8 kind, .int .u64 n] w fun e w' => e = .returned (.string ⟨(nmName kind n).toArray⟩) ∧ Fr Non w w'
  parse : ∀ (s : ByteArray) (w : World), s.size ≤ 140737488355328 → T w → Calls Tryd.prog 13 #[.string s] w fun e w' => ParsedR s.data.toList e ∧ Fr Non w w'
  right : ∀ (h : Hd) (w : World), h.ok → Calls Tryd.prog 17 #[.agg (hdCells h).toArray] w fun e w' => e = .returned (.bool (hdRight h)) ∧ Fr Non w w'
  lay : ∀ (h : Hd) (w : World), h.ok → Calls Tryd.prog 19 #[.agg (hdCells h).toArray] w fun e w' => ∃ v, e = .returned v ∧ Own w' w.heap.size 5 v (bs (hdLay h)) ∧ Fr Non w w'
  take : ∀ (v : Value) (l : List UInt8) (w : World), Row w v (bs l) → l.length ≤ 281474976710656 → Calls Tryd.prog 15 #[v] w fun e w' => e = .returned (.tuple #[.agg (hdCells (hdTake l).1).toArray, .int .i64 (hdTake l).2]) ∧ Fr Non w w'
  nonce : ∀ (p : Nat) (w : World), p < 18446744073709551616 → Calls Tryd.prog 23 #[.int .u64 p] w fun e w' => e = .returned (.agg (bs (nonceOf p)).toArray) ∧ Fr Non w w'
end Go.Proofs.YtpmkcjgndljhgaaDoor
